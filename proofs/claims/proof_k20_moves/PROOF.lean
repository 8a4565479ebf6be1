import PyProof.Rows.All
import Wide.All
import OpenK.AllK
import Wide.FinOn
import Lean
import PyProof.EqAt
import PyProof.EqKinds
import PyProof.TupleCall
import PyProof.DictWalks
import PyProof.ListMulRoad
import PyProof.Rows.Range3
import PyProof.StationsW
import OpenK.KOwn
import PyProof.ExcBaseAll.ValueError
import PyProof.MaxThree
import KE.KIsAll
import KE.KIsNot
import PyProof.RulesAs
import PyProof.ExcArgsOwn
import PyProof.ExcAttrAll.ValueError
import PySem.Challenge.RW_beadrods_k20_moves
section
-- CHANGE: your row's module here, as the last of these rows
set_option Elab.async false
set_option linter.all false
set_option maxRecDepth 100000
namespace L2
open PySem PySem.Spec PyProof.Rows

noncomputable abbrev Key := Sum Int Str
noncomputable def keyIs : Key → Value → Bool
  | .inl k, v => Value.isInt k v
  | .inr x, v => Value.isStrOf x v
noncomputable def keyH (w : World) : Key → Int
  | .inl k => hashInt k
  | .inr x => hashStr w x
theorem keyIs_shape : ∀ {k : Key} {v : Value}, keyIs k v = true → (∃ i t, k = Sum.inl i ∧ v = Value.int i t) ∨ (∃ x t, k = Sum.inr x ∧ v = Value.str x t)
  | .inl i, v, h => by
    obtain ⟨t, e⟩ := Value.isInt_shape (k := i) (v := v) h
    exact .inl ⟨i, t, rfl, e⟩
  | .inr x, v, h => by
    obtain ⟨t, e⟩ := Value.isStrOf_shape (x := x) (v := v) h
    exact .inr ⟨x, t, rfl, e⟩
theorem key_ll (a b : Int) : decide ((Sum.inl a : Key) = Sum.inl b) = (a == b) := by
  by_cases e : a = b
  · subst e; simp
  · have h : ¬ (Sum.inl a : Key) = Sum.inl b := fun q => e (Sum.inl.inj q)
    rw [decide_eq_false h]
    exact (beq_eq_false_iff_ne.mpr e).symm
theorem key_rr (a b : Str) : decide ((Sum.inr a : Key) = Sum.inr b) = decide (a = b) := by
  by_cases e : a = b
  · subst e; simp
  · have h : ¬ (Sum.inr a : Key) = Sum.inr b := fun q => e (Sum.inr.inj q)
    rw [decide_eq_false h, decide_eq_false e]
theorem key_lr (a : Int) (b : Str) : decide ((Sum.inl a : Key) = Sum.inr b) = false := decide_eq_false (fun q => nomatch q)
theorem key_rl (a : Str) (b : Int) : decide ((Sum.inr a : Key) = Sum.inl b) = false := decide_eq_false (fun q => nomatch q)

noncomputable def mixKind (prog : Program) (w : World) : PySem.KeyKind prog w Key where
  is := keyIs
  hash := keyH w
  inj := fun v a b ha hb => by
    rcases keyIs_shape ha with ⟨i, t, rfl, rfl⟩ | ⟨x, t, rfl, rfl⟩
    · rcases keyIs_shape hb with ⟨j, u, rfl, e⟩ | ⟨y, u, rfl, e⟩
      · injection e with e1 _; rw [e1]
      · exact nomatch e
    · rcases keyIs_shape hb with ⟨j, u, rfl, e⟩ | ⟨y, u, rfl, e⟩
      · exact nomatch e
      · injection e with e1 _; rw [e1]
  byValue := fun k v h => by
    rcases keyIs_shape h with ⟨i, t, rfl, rfl⟩ | ⟨x, t, rfl, rfl⟩ <;> rfl
  pyHash := fun hv h => by
    rcases keyIs_shape hv with ⟨i, t, rfl, rfl⟩ | ⟨x, t, rfl, rfl⟩
    · exact wpAny_pyHash_int h
    · exact wpAny_pyHash_str h
  eqBool := fun hu hv h => by
    rcases keyIs_shape hu with ⟨i, t, rfl, rfl⟩ | ⟨x, t, rfl, rfl⟩
    · rcases keyIs_shape hv with ⟨j, u, rfl, rfl⟩ | ⟨y, u, rfl, rfl⟩
      · rw [key_ll] at h; exact wpAny_eqBool_int h
      · rw [key_lr] at h; exact SeqAt.EqAt.int_str i t y u _ _ _ _ h
    · rcases keyIs_shape hv with ⟨j, u, rfl, rfl⟩ | ⟨y, u, rfl, rfl⟩
      · rw [key_rl] at h; exact SeqAt.EqAt.str_int x t j u _ _ _ _ h
      · rw [key_rr] at h; exact wpAny_eqBool_str h
  «strs» := fun k x t v h => by
    rcases keyIs_shape h with ⟨i, u, rfl, e⟩ | ⟨y, u, rfl, e⟩
    · exact nomatch e
    · injection e with e1 _
      subst e1
      cases v <;> rfl

end L2

namespace L2
open PySem PySem.Spec PyProof.Rows

inductive V where
  | non | bl (b : Bool) | int (i : Int) | str (x : Str) | byt (b : Array UInt8) | flt (b : UInt64) | ref (a : Addr) | ty (n : String)
  deriving DecidableEq

noncomputable def RelV : V → Value → Prop
  | .non, u => u = Value.none
  | .bl b, u => u = Value.bool b
  | .int i, u => ∃ t, u = Value.int i t
  | .str x, u => ∃ t, u = Value.str x t
  | .byt b, u => ∃ t, u = Value.bytes b t
  | .flt b, u => ∃ t, u = Value.float b t
  | .ref a, u => u = Value.ref a
  | .ty n, u => u = Value.type n

noncomputable abbrev Vals : List V → List Value → Prop := Paired RelV
theorem Vals.length {xs : List V} {us : List Value} (r : Vals xs us) : xs.length = us.length := Paired.length r
theorem Vals.get : ∀ {xs : List V} {us : List Value} {i : Nat} {x : V}, Vals xs us → xs[i]? = some x → ∃ u, us[i]? = some u ∧ RelV x u
  | _, _, _, _, .nil, e => by simp at e
  | _, _, 0, _, .cons r _, e => by simp at e; subst e; exact ⟨_, rfl, r⟩
  | _, _, i + 1, x, .cons _ t, e => by
    obtain ⟨u, h1, h2⟩ := Vals.get (i := i) (x := x) t (by simpa using e)
    exact ⟨u, by simpa using h1, h2⟩
theorem Vals.set {x : V} {u : Value} (r : RelV x u) : ∀ {xs : List V} {us : List Value} (i : Nat), Vals xs us → Vals (xs.set i x) (us.set i u)
  | _, _, _, .nil => .nil
  | _, _, 0, .cons _ t => .cons r t
  | _, _, i + 1, .cons q t => .cons q (Vals.set r i t)
theorem Vals.append : ∀ {xs ys : List V} {us ws : List Value}, Vals xs us → Vals ys ws → Vals (xs ++ ys) (us ++ ws)
  | _, _, _, _, .nil, s => s
  | _, _, _, _, .cons r t, s => .cons r (Vals.append t s)
theorem Vals.take : ∀ {xs : List V} {us : List Value} (n : Nat), Vals xs us → Vals (xs.take n) (us.take n)
  | _, _, 0, _ => .nil
  | _, _, _ + 1, .nil => .nil
  | _, _, n + 1, .cons r t => .cons r (Vals.take n t)
theorem Vals.drop : ∀ {xs : List V} {us : List Value} (n : Nat), Vals xs us → Vals (xs.drop n) (us.drop n)
  | _, _, 0, r => r
  | _, _, _ + 1, .nil => .nil
  | _, _, n + 1, .cons _ t => Vals.drop n t

noncomputable def RelO : Option V → Option Value → Prop
  | some v, some u => RelV v u
  | none, none => True
  | _, _ => False
noncomputable def KV {κ : Type} : List (κ × V) → List (κ × Value) → Prop := Paired fun (p : κ × V) (q : κ × Value) => p.1 = q.1 ∧ RelV p.2 q.2

noncomputable def kV : Key → V
  | .inl i => .int i
  | .inr x => .str x

inductive HO where
  /-- a list -/
  | lst (xs : List V)
  /-- a tuple (never changes) -/
  | tup (xs : List V)
  /-- a dict whose keys are ints and texts; one whose keys are tuples of ints and texts (the empty one is both) -/
  | dK (kvs : List (Key × V)) | dT (kvs : List (List Key × V))
  /-- a set of ints: its members, its size -/
  | set (S : Int → Bool) (n : Nat)
  /-- an instance of the class at C, its dict at dx, its attributes -/
  | ins (C dx : Addr) (fs : List (Str × V))
  /-- the dict of the instance at x -/
  | own (x : Addr)
  /-- the dict of an exception -/
  | xd (fs : List (Str × V))
  /-- a bound method, f of x -/
  | met (f x : Addr)
  /-- a range object lo, lo + 1, .. below hi -/
  | rng (lo hi : Int)
  /-- a thing that is known to the object (the script; a dict while a loop walks it): read, never written while it is so -/
  | frz (o : Obj) (u : HO)
  /-- a code object's table -/
  | tbl (ps : Array Value)
  /-- any other thing, by what is true of its one object (a def of one's own: SetO a S n := HO.ext fun h => ..) -/
  | ext (φ : Heap → Prop)

noncomputable abbrev Hp := Addr → Option HO
noncomputable def upd (H : Hp) (a : Addr) (o : HO) : Hp := fun b => if b = a then some o else H b
theorem upd_same {H : Hp} {a : Addr} {o : HO} : upd H a o a = some o := by unfold upd; rw [if_pos rfl]
theorem upd_ne {H : Hp} {a b : Addr} {o : HO} (h : b ≠ a) : upd H a o b = H b := by unfold upd; rw [if_neg h]
theorem upd_upd {H : Hp} {a : Addr} {o u : HO} : upd (upd H a o) a u = upd H a u := by
  funext b; unfold upd; split <;> rfl
theorem ne_of_none {H : Hp} {a b : Addr} {o : HO} (h : H a = some o) (h' : H b = none) : a ≠ b := by
  intro e; subst e; rw [h] at h'; cases h'

section
variable (P : Program) (w : World)
noncomputable def ObjOk (H : Hp) (h : Heap) (a : Addr) : HO → Prop
  | .lst xs => xs.length ≤ sizeLine ∧ ∃ (its : List Value) (n : Nat), Vals xs its ∧ h.get? a = some { cls := .type "list", data := .seq its.toArray n }
  | .tup xs => xs.length ≤ sizeLine ∧ ∃ its : List Value, Vals xs its ∧ IsTup h a its.toArray
  | .dK kvs => kvs.length ≤ sizeLine ∧ (a == sysModules) = false ∧ ∃ vs, KV kvs vs ∧ h.DictOf (mixKind P w) a vs
  | .dT kvs => kvs.length ≤ sizeLine ∧ (a == sysModules) = false ∧ ∃ xs : List (List Key × Addr × Value),
      Paired (fun (p : List Key × V) (q : List Key × Addr × Value) => p.1 = q.1 ∧ H q.2.1 = some (.tup (p.1.map kV)) ∧ RelV p.2 q.2.2) kvs xs ∧
      ∃ o es ep, h.get? a = some o ∧ o.ExactDict ∧ o.data = .dict es ep ∧ es.toList = xs.map (entryOfKey (tupleKind (mixKind P w))) ∧ (xs.map (·.1)).Nodup
  | .set S n => h.SetOf (intKind P w) a S n
  | .ins C dx fs => H dx = some (.own a) ∧ fs.length ≤ 1000 ∧ dx ≠ a ∧ h.get? a = some (PySem.W.instObj C dx) ∧
      ∃ mA, h.Ns1 dx mA ∧ (∀ f, RelO (fs.lookup f) (mA f)) ∧ PySem.Within mA (fs.map (·.1))
  | .own _ => ∃ o, h.get? a = some o
  | .xd fs => ∃ mA, h.Ns1 a mA ∧ ∀ f, RelO (fs.lookup f) (mA f)
  | .rng lo hi => ∃ t u v, h.get? a = some { cls := .type "range", data := .fields #[.int lo t, .int hi u, .int 1 v] }
  | .frz o u => h.get? a = some o ∧ ObjOk H h a u
  | .tbl ps => h.get? a = some { cls := .none, data := .fields ps }
  | .met f x => h.get? a = some (PySem.W.methodObj (.ref f) (.ref x))
  | .ext φ => φ h ∧ (∃ o, h.get? a = some o) ∧ ∀ h1 h2 : Heap, φ h1 → (∀ o, h1.get? a = some o → h2.get? a = some o) → φ h2
noncomputable def HOk (H : Hp) (h : Heap) : Prop := ∀ a o, H a = some o → ObjOk P w H h a o
end

section
variable {P : Program} {w : World} {H H' : Hp} {h h' : Heap} {a : Addr} {o : HO}
theorem ObjOk.lt (x : ObjOk P w H h a o) : a < h.objs.size := by
  cases o with
  | lst xs => obtain ⟨_, _, _, _, e⟩ := x; exact Heap.lt_size e
  | tup xs => obtain ⟨_, _, _, p⟩ := x; exact p.lt
  | dK kvs => obtain ⟨_, _, _, _, o, _, _, e, _⟩ := x; exact Heap.lt_size e
  | dT kvs => obtain ⟨_, _, _, _, o, _, _, e, _⟩ := x; exact Heap.lt_size e
  | set S n => obtain ⟨o, _, _, _, e, _⟩ := x; exact Heap.lt_size e
  | ins C dx fs => obtain ⟨_, _, _, e, _⟩ := x; exact Heap.lt_size e
  | own y => obtain ⟨_, e⟩ := x; exact Heap.lt_size e
  | xd fs => obtain ⟨_, ⟨_, _, _, e, _⟩, _⟩ := x; exact Heap.lt_size e
  | rng lo hi => obtain ⟨_, _, _, e⟩ := x; exact Heap.lt_size e
  | frz ob u => obtain ⟨e, _⟩ := x; exact Heap.lt_size e
  | tbl ps => exact Heap.lt_size (show h.get? a = some _ from x)
  | met f y => exact Heap.lt_size (show h.get? a = some _ from x)
  | ext φ => obtain ⟨_, ⟨_, e⟩, _⟩ := x; exact Heap.lt_size e
theorem Paired.mapP {α β : Type} {F G : α → β → Prop} : ∀ {l₁ : List α} {l₂ : List β}, Paired F l₁ l₂ → (∀ a b, F a b → G a b) → Paired G l₁ l₂
  | _, _, .nil, _ => .nil
  | _, _, .cons r t, f => .cons (f _ _ r) (Paired.mapP t f)
theorem ObjOk.stay (x : ObjOk P w H h a o) (k : ∀ b u, (b = a ∨ H b = some (.own a)) → h.get? b = some u → h'.get? b = some u)
    (ho : ∀ b, H b = some (.own a) → H' b = some (.own a)) (ht : ∀ b xs, H b = some (.tup xs) → H' b = some (.tup xs)) : ObjOk P w H' h' a o := by
  induction o with
  | lst xs => obtain ⟨z, its, n, r, e⟩ := x; exact ⟨z, its, n, r, k _ _ (.inl rfl) e⟩
  | tup xs => obtain ⟨z, its, r, ob, e, c⟩ := x; exact ⟨z, its, r, ob, k _ _ (.inl rfl) e, c⟩
  | dK kvs => obtain ⟨z, y, vs, r, ob, es, ep, e, c⟩ := x; exact ⟨z, y, vs, r, ob, es, ep, k _ _ (.inl rfl) e, c⟩
  | dT kvs =>
    obtain ⟨z, y, xs, r, ob, es, ep, e, c⟩ := x
    exact ⟨z, y, xs, Paired.mapP r fun p q z => ⟨z.1, ht _ _ z.2.1, z.2.2⟩, ob, es, ep, k _ _ (.inl rfl) e, c⟩
  | set S n => obtain ⟨ob, es, ep, t, e, c⟩ := x; exact ⟨ob, es, ep, t, k _ _ (.inl rfl) e, c⟩
  | ins C dx fs =>
    obtain ⟨d, z, ne, e, mA, ⟨od, es, ep, e2, c⟩, r⟩ := x
    exact ⟨ho _ d, z, ne, k _ _ (.inl rfl) e, mA, ⟨od, es, ep, k _ _ (.inr d) e2, c⟩, r⟩
  | own y => obtain ⟨ob, e⟩ := x; exact ⟨ob, k _ _ (.inl rfl) e⟩
  | xd fs => obtain ⟨mA, ⟨od, es, ep, e, c⟩, r⟩ := x; exact ⟨mA, ⟨od, es, ep, k _ _ (.inl rfl) e, c⟩, r⟩
  | rng lo hi => obtain ⟨t, u, v, e⟩ := x; exact ⟨t, u, v, k _ _ (.inl rfl) e⟩
  | frz ob u ih => obtain ⟨e, q⟩ := x; exact ⟨k _ _ (.inl rfl) e, ih q⟩
  | tbl ps =>
    have e : h.get? a = some { cls := .none, data := .fields ps } := x
    show h'.get? a = some { cls := .none, data := .fields ps }
    exact k a _ (.inl rfl) e
  | met f y =>
    have e : h.get? a = some (PySem.W.methodObj (.ref f) (.ref y)) := x
    show h'.get? a = some (PySem.W.methodObj (.ref f) (.ref y))
    exact k a _ (.inl rfl) e
  | ext φ => obtain ⟨p, ⟨o, e⟩, st⟩ := x; exact ⟨st _ _ p fun o q => k _ _ (.inl rfl) q, ⟨o, k _ _ (.inl rfl) e⟩, st⟩
theorem HOk.lt (x : HOk P w H h) (e : H a = some o) : a < h.objs.size := (x a o e).lt
theorem HOk.fresh (x : HOk P w H h) (e : h.objs.size ≤ a) : H a = none := by
  cases q : H a with
  | none => rfl
  | some u => exact absurd (Nat.lt_of_lt_of_le (x.lt q) e) (Nat.lt_irrefl _)
theorem HOk.kept (x : HOk P w H h) (k : ∀ b u, h.get? b = some u → h'.get? b = some u) : HOk P w H h' := fun a o e =>
  (x a o e).stay (fun b u _ q => k b u q) (fun _ q => q) fun _ _ q => q
theorem HOk.laid (x : HOk P w H h) (k : ∀ b u, h.get? b = some u → h'.get? b = some u) (hp : h.objs.size ≤ a) (new : ObjOk P w (upd H a o) h' a o) : HOk P w (upd H a o) h' := fun b u e => by
  have hn := x.fresh hp
  by_cases hb : b = a
  · subst hb; rw [upd_same] at e; cases e; exact new
  · rw [upd_ne hb] at e
    exact (x b u e).stay (fun c v _ q => k c v q) (fun c q => by rw [upd_ne (ne_of_none q hn)]; exact q) fun c xs q => by rw [upd_ne (ne_of_none q hn)]; exact q
end

noncomputable def Rd (H : Hp) (a : Addr) (u : HO) : Prop := H a = some u ∨ ∃ o, H a = some (.frz o u)
theorem Rd.of {H : Hp} {a : Addr} {u : HO} (h : H a = some u) : Rd H a u := .inl h
theorem Rd.ok {P : Program} {w : World} {H : Hp} {h : Heap} {a : Addr} {u : HO} (r : Rd H a u) (x : HOk P w H h) : ObjOk P w H h a u := by
  rcases r with r | ⟨o, r⟩
  · exact x a u r
  · obtain ⟨_, q⟩ := x a _ r
    exact q
noncomputable def Mut : Option HO → Prop
  | some (.lst _) => True
  | some (.dK _) => True
  | some (.dT _) => True
  | some (.set _ _) => True
  | some (.ins _ _ _) => True
  | some (.ext _) => True
  | _ => False
section
variable {P : Program} {w : World} {H : Hp} {h h' : Heap} {x e : Addr} {o' : HO}
theorem HOk.write (ok : HOk P w H h) (mu : Mut (H x)) (he : e = x ∨ H e = some (.own x)) (k : ∀ b u, b ≠ e → h.get? b = some u → h'.get? b = some u) (heo : ∃ u, h'.get? e = some u)
    (new : ObjOk P w (upd H x o') h' x o') : HOk P w (upd H x o') h' := fun b u q => by
  have nown : ∀ c y, H c = some (.own y) → c ≠ x := fun c y r z => by subst z; rw [r] at mu; exact mu
  have ntup : ∀ c xs, H c = some (.tup xs) → c ≠ x := fun c xs r z => by subst z; rw [r] at mu; exact mu
  by_cases hb : b = x
  · subst hb; rw [upd_same] at q; cases q; exact new
  · rw [upd_ne hb] at q
    by_cases hbe : b = e
    · have q' : H b = some (.own x) := by
        rcases he with z | z
        · exact absurd (hbe.trans z) hb
        · rw [hbe]; exact z
      rw [q] at q'; cases q'
      obtain ⟨v, hv⟩ := heo
      exact ⟨v, by rw [hbe]; exact hv⟩
    · refine (ok b u q).stay (fun c v hc r => k c v ?_ r) (fun c r => by rw [upd_ne (nown c b r)]; exact r) fun c xs r => by rw [upd_ne (ntup c xs r)]; exact r
      rcases hc with rfl | hc
      · exact hbe
      · rintro rfl
        rcases he with z | z
        · exact nown c b hc z
        · rw [hc] at z; cases z; exact hb rfl
end

structure Un (fs ex : List Addr) (H H' : Hp) (h h' : Heap) : Prop where
  keep : ∀ b o, h.get? b = some o → H b = none → b ∉ fs → b ∉ ex → h'.get? b = some o
  slot : ∀ b o, h.get? b = some o → H b = none → b ∈ fs → b ∉ ex → ∃ sl, h'.get? b = some { o with slots := sl }
  free : ∀ b o, h.get? b = some o → H b = none → b ∉ ex → H' b = none
  there : ∀ b o, h.get? b = some o → b ∉ ex → ∃ o', h'.get? b = some o'
  tups : ∀ b xs, H b = some (.tup xs) → H' b = some (.tup xs)
  frzs : ∀ b o u, H b = some (.frz o u) → H' b = some (.frz o u)
  tbls : ∀ b ps, H b = some (.tbl ps) → ∃ more, H' b = some (.tbl (ps ++ more))
section
variable {fs fs' ex ex' : List Addr} {H H1 H2 : Hp} {h h1 h2 h' : Heap} {a x e : Addr} {o : HO}
theorem Un.any (u : Un fs ex H H1 h h1) {b : Addr} {ob : Obj} (q : h.get? b = some ob) (n : H b = none) (hx : b ∉ ex) : ∃ sl, h1.get? b = some { ob with slots := sl } := by
  by_cases hb : b ∈ fs
  · exact u.slot b ob q n hb hx
  · exact ⟨ob.slots, u.keep b ob q n hb hx⟩
theorem Un.trans (a : Un fs ex H H1 h h1) (b : Un fs ex H1 H2 h1 h2) : Un fs ex H H2 h h2 where
  keep := fun c ob q n hc hx => b.keep c ob (a.keep c ob q n hc hx) (a.free c ob q n hx) hc hx
  slot := fun c ob q n hc hx => by
    obtain ⟨sl, e1⟩ := a.slot c ob q n hc hx
    obtain ⟨sl', e2⟩ := b.slot c _ e1 (a.free c ob q n hx) hc hx
    exact ⟨sl', e2⟩
  free := fun c ob q n hx => by
    obtain ⟨o', e1⟩ := a.there c ob q hx
    exact b.free c o' e1 (a.free c ob q n hx) hx
  there := fun c ob q hx => by
    obtain ⟨o', e1⟩ := a.there c ob q hx
    exact b.there c o' e1 hx
  tups := fun c xs q => b.tups c xs (a.tups c xs q)
  frzs := fun c ob xs q => b.frzs c ob xs (a.frzs c ob xs q)
  tbls := fun c ps q => by
    obtain ⟨m1, e1⟩ := a.tbls c ps q
    obtain ⟨m2, e2⟩ := b.tbls c _ e1
    exact ⟨m1 ++ m2, by rw [e2, Array.append_assoc]⟩
theorem Un.kept (k : ∀ b u, h.get? b = some u → h'.get? b = some u) : Un fs ex H H h h' :=
  ⟨fun b ob q _ _ _ => k b ob q, fun b ob q _ _ _ => ⟨ob.slots, k b ob q⟩, fun _ _ _ n _ => n, fun b ob q _ => ⟨ob, k b ob q⟩, fun _ _ q => q, fun _ _ _ q => q, fun _ ps q => ⟨#[], by rw [q]; simp⟩⟩
theorem Un.refl : Un fs ex H H h h := Un.kept fun _ _ q => q
theorem Un.laid (k : ∀ b u, h.get? b = some u → h'.get? b = some u) (hp : h.objs.size ≤ a) (hn : H a = none) : Un fs ex H (upd H a o) h h' where
  keep := fun b u q _ _ _ => k b u q
  slot := fun b u q _ _ _ => ⟨u.slots, k b u q⟩
  free := fun b u q n _ => by rw [upd_ne (Nat.ne_of_lt (Nat.lt_of_lt_of_le (Heap.lt_size q) hp))]; exact n
  there := fun b u q _ => ⟨u, k b u q⟩
  tups := fun b xs q => by rw [upd_ne (ne_of_none q hn)]; exact q
  frzs := fun b u xs q => by rw [upd_ne (ne_of_none q hn)]; exact q
  tbls := fun b ps q => ⟨#[], by rw [upd_ne (ne_of_none q hn), q]; simp⟩
theorem Un.write (mu : Mut (H x)) (he : e = x ∨ H e = some (.own x)) (k : ∀ b u, b ≠ e → h.get? b = some u → h'.get? b = some u) (heo : ∃ u, h'.get? e = some u) : Un fs ex H (upd H x o) h h' := by
  have hx : ∀ b, H b = none → b ≠ x := fun b n z => by subst z; rw [n] at mu; exact mu
  have hb : ∀ b, H b = none → b ≠ e := fun b n z => by
    subst z
    rcases he with r | r
    · exact hx b n r
    · rw [n] at r; cases r
  have hm : ∀ b u, H b = some u → ¬ Mut (some u) → b ≠ x := fun b u q nm z => by subst z; rw [q] at mu; exact nm mu
  refine ⟨fun b u q n _ _ => k b u (hb b n) q, fun b u q n _ _ => ⟨u.slots, k b u (hb b n) q⟩, fun b u q n _ => by rw [upd_ne (hx b n)]; exact n, fun b u q _ => ?_,
    fun b xs q => by rw [upd_ne (hm b _ q fun z => z)]; exact q, fun b u xs q => by rw [upd_ne (hm b _ q fun z => z)]; exact q, fun b ps q => ⟨#[], by rw [upd_ne (hm b _ q fun z => z), q]; simp⟩⟩
  by_cases hbe : b = e
  · subst hbe; exact heo
  · exact ⟨u, k b u hbe q⟩
theorem Un.mono (u : Un fs ex H H1 h h1) (hs : ∀ b ∈ fs, b ∈ fs') (hx : ∀ b ∈ ex, b ∈ ex') : Un fs' ex' H H1 h h1 :=
  ⟨fun b ob q n hb he => u.keep b ob q n (fun z => hb (hs b z)) fun z => he (hx b z), fun _ _ q n _ he => u.any q n fun z => he (hx _ z), fun b ob q n he => u.free b ob q n fun z => he (hx b z), fun b ob q he => u.there b ob q fun z => he (hx b z), u.tups, u.frzs, u.tbls⟩
end

noncomputable def trk (h : Heap) (H : Hp) : List Addr := (List.range h.objs.size).filter fun a => (H a).isSome
noncomputable def hidT (h : Heap) (H : Hp) : Heap := PySem.W.hideAll h (trk h H)
theorem hidT_size (h : Heap) (H : Hp) : (hidT h H).objs.size = h.objs.size := PySem.W.hideAll_size _ _
theorem hidT_get {h : Heap} {H : Hp} {b : Addr} {o : Obj} (e : h.get? b = some o) (n : H b = none) : (hidT h H).get? b = some o :=
  PySem.W.hideAll_get _ e fun hm => by
    have q : (H b).isSome = true := (List.mem_filter.mp hm).2
    rw [n] at q; simp at q
theorem of_hidT {h : Heap} {H : Hp} {b : Addr} {o : Obj} (e : (hidT h H).get? b = some o) : h.get? b = some o ∧ H b = none := by
  have e' : h.get? b = some o := PySem.W.of_hideAll (trk h H) e
  refine ⟨e', ?_⟩
  cases q : H b with
  | none => rfl
  | some x =>
    have hm : b ∈ trk h H := List.mem_filter.mpr ⟨List.mem_range.mpr (Heap.lt_size e'), by simp [q]⟩
    have z : (hidT h H).get? b = none := PySem.W.hideAll_none (trk h H) hm
    rw [z] at e; cases e

noncomputable def allNews (g h : Heap) (L : Addr) : List (Addr × Obj) := (List.range h.objs.size).filterMap fun a => if a = L ∨ (g.get? a).isSome = true then none else (h.get? a).map fun o => (a, o)
noncomputable def rest (g h : Heap) (L d : Addr) : List (Addr × Obj) := (allNews g h L).filter fun p => decide (p.1 ≠ d)
end L2

namespace L2
open PySem PySem.Spec PyProof.Rows

structure Mod (K : PySem.W.Frag) (mg : Str → Option Value) (base : Heap) : Prop where
  kin : K.In base
  glob : base.Ns mainGlobals mg
  blt : ∃ mb, base.Ns builtinsNs mb ∧ ∀ x : Str, x ≠ "__name__" → mb x = bootBuiltins x
  nolimit : base.NoLimit

/-- the context: a def's body (or a comprehension's block) running. base: fixed through the whole law; s₀, H₀: the entry; outer: the frames whose slots others may change (a def's callers); stack: all frames that run;
   ex: iterators that were made ahead of the entry and are walked here (a comprehension's); fn: the names whose cells were made at the entry (a def: all; a comprehension's block: its own); calm: not within an except suite; pn: pins that every state bears; xe: what is wanted of an exception that leaves the code -/
structure Cx where
  prog : Program
  w : World
  K : PySem.W.Frag
  mg : Str → Option Value
  base : Heap
  A : Around
  N : List Str
  s₀ : Shared
  H₀ : Hp
  env : Env
  outer : List Env
  stack : List Env
  ex : List Addr
  fn : Str → Bool
  calm : Bool
  pn : List (Addr × Obj)
  xe : Value → Shared → Prop
noncomputable def frs (l : List Env) : List Addr := l.filterMap (·.frame)
noncomputable abbrev Cx.fs (X : Cx) : List Addr := frs X.outer

noncomputable def Vis (sc : Scope) (x : Str) : Prop := sc.names.lookup x = some .local ∨ sc.names.lookup x = some .cell ∨ sc.names.lookup x = some .free
noncomputable def Loc (sc : Scope) (x : Str) : Prop := sc.names.lookup x = some .local ∨ sc.names.lookup x = some .cell
noncomputable def Look (env : Env) (h : Heap) (m : Str → Option Value) (x : Str) (u : Value) : Prop :=
  (env.kindOf x = some .local ∧ m x = some u) ∨ ((env.kindOf x = some .cell ∨ env.kindOf x = some .free) ∧ ∃ c, env.cells.lookup x = some c ∧ h.IsCell c (some u))

structure Cx.Ok (X : Cx) : Prop where
  mod : Mod X.K X.mg X.base
  kind : X.env.scope.kind = .function
  glob : X.env.globals = mainGlobals
  blt : X.env.builtins = builtinsNs
  above : X.s₀.heap.objs.size ≤ X.env.locals
  inj : ∀ x y c, X.env.cells.lookup x = some c → X.env.cells.lookup y = some c → x = y
  has : ∀ x, (X.env.kindOf x = some .cell ∨ X.env.kindOf x = some .free) → ∃ c, X.env.cells.lookup x = some c
  cab : ∀ x c, X.fn x = true → X.env.cells.lookup x = some c → X.s₀.heap.objs.size ≤ c
  hd : X.calm = true → X.A.handled = none
  frames : X.A.frames = some X.stack
  stk : X.stack = X.outer ∨ (X.stack = X.env :: X.outer ∧ X.env.frame = some X.env.locals)
  exf : ∀ b ∈ X.ex, b ≠ X.env.locals ∧ ∀ x c, X.env.cells.lookup x = some c → c ≠ b
  bs : ∀ b o, X.base.get? b = some o → X.s₀.heap.get? b = some o ∧ X.H₀ b = none
  bsz : X.base.objs.size ≤ X.s₀.heap.objs.size
  noex : ∀ b o, X.base.get? b = some o → b ∉ X.ex
  exfs : ∀ b ∈ X.ex, b ∉ X.fs
  funs : X.s₀.heap.FunFrames X.base X.outer
  frf : ∀ b ∈ X.fs, X.H₀ b = none

structure Inv (X : Cx) (pins : List (Addr × Obj)) (σ : List (Option V)) (H : Hp) (s : Shared) : Prop where
  ok : X.Ok
  os : s.os = X.s₀.os
  bare : AllBare s.gens
  base : Un X.fs X.ex X.H₀ H X.s₀.heap s.heap
  loc : ∃ m, s.heap.Ns X.env.locals m ∧ ∀ (i : Nat) (x : Str) (v : V), X.N[i]? = some x → σ[i]? = some (some v) → Vis X.env.scope x → ∃ u, RelV v u ∧ Look X.env s.heap m x u
  cell : ∀ x c, X.env.cells.lookup x = some c → ∃ v, s.heap.IsCell c v
  free : H X.env.locals = none
  freeC : ∀ x c, X.env.cells.lookup x = some c → H c = none
  pin : ∀ p ∈ X.pn ++ pins, s.heap.get? p.1 = some p.2 ∧ H p.1 = none ∧ p.1 ≠ X.env.locals ∧ p.1 ∉ X.fs ∧ ∀ v, p.2.data ≠ .cell v
  hok : HOk X.prog X.w H s.heap
  len : σ.length = X.N.length

section
variable {X : Cx} {pins : List (Addr × Obj)} {σ : List (Option V)} {H H' : Hp} {s : Shared} {h' : Heap}

theorem Cx.Ok.nofr (ok : X.Ok) {b : Addr} {o : Obj} (e : X.base.get? b = some o) : b ∉ X.fs := fun hb => by
  have := (ok.funs.mem hb).1
  rw [e] at this; cases this
theorem Inv.bs (I : Inv X pins σ H s) : ∀ b o, X.base.get? b = some o → s.heap.get? b = some o ∧ H b = none := fun b o e =>
  ⟨I.base.keep b o (I.ok.bs b o e).1 (I.ok.bs b o e).2 (I.ok.nofr e) (I.ok.noex b o e), I.base.free b o (I.ok.bs b o e).1 (I.ok.bs b o e).2 (I.ok.noex b o e)⟩
theorem Inv.bk (I : Inv X pins σ H s) : ∀ b o, X.base.get? b = some o → s.heap.get? b = some o := fun b o e => (I.bs b o e).1
theorem Inv.mod (I : Inv X pins σ H s) : Mod X.K X.mg X.base := I.ok.mod
theorem Inv.kIn (I : Inv X pins σ H s) : X.K.In s.heap := I.ok.mod.kin.keeps I.bk
theorem Inv.nolimit (I : Inv X pins σ H s) : s.heap.NoLimit := I.ok.mod.nolimit.keeps I.bk
theorem Inv.fr (I : Inv X pins σ H s) : ∃ m, Fr X.base X.env.locals s.heap m :=
  let ⟨m, hn, _⟩ := I.loc
  ⟨m, hn, I.bk, Nat.le_trans I.ok.bsz I.ok.above⟩
theorem Inv.lt (I : Inv X pins σ H s) : X.env.locals < s.heap.objs.size := let ⟨_, hn, _⟩ := I.loc; hn.lt
theorem Inv.sz (I : Inv X pins σ H s) : X.s₀.heap.objs.size ≤ s.heap.objs.size := Nat.le_trans I.ok.above (Nat.le_of_lt I.lt)
theorem Inv.nofs (I : Inv X pins σ H s) {a : Addr} (h : s.heap.objs.size ≤ a) : a ∉ X.fs := fun hb => by
  obtain ⟨_, o, ho, _⟩ := I.ok.funs.mem hb
  exact absurd (Nat.lt_of_lt_of_le (Heap.lt_size ho) (Nat.le_trans I.sz h)) (Nat.lt_irrefl _)
theorem Inv.cne (I : Inv X pins σ H s) : ∀ x c, X.env.cells.lookup x = some c → c ≠ X.env.locals := fun x c e z => by
  obtain ⟨v, o, ho, hd⟩ := I.cell x c e
  obtain ⟨m, ⟨o', es, ep, ho', hd', _⟩, _⟩ := I.loc
  rw [z, ho'] at ho; cases ho; rw [hd'] at hd; cases hd
theorem Inv.funs (I : Inv X pins σ H s) : s.heap.FunFrames X.base X.outer := by
  have all : ∀ (l : List Env), (∀ b ∈ frs l, b ∈ X.fs) → X.s₀.heap.FunFrames X.base l → s.heap.FunFrames X.base l := by
    intro l
    induction l with
    | nil => intro _ _; trivial
    | cons env r ih =>
      intro hs hl
      obtain ⟨hk, ⟨L, o, hf, hn, ho, hd⟩, hr⟩ := hl
      have hL : L ∈ X.fs := hs L (by unfold frs; rw [List.filterMap_cons, hf]; exact List.mem_cons_self)
      obtain ⟨sl, e⟩ := I.base.slot L o ho (I.ok.frf L hL) hL fun z => I.ok.exfs L z hL
      exact ⟨hk, ⟨L, _, hf, hn, e, hd⟩, ih (fun b hb => hs b (by unfold frs; rw [List.filterMap_cons, hf]; exact List.mem_cons_of_mem _ hb)) hr⟩
  exact all X.outer (fun _ hb => hb) I.ok.funs

theorem Inv.stack (I : Inv X pins σ H s) : s.heap.FunFrames X.base X.stack := by
  rcases I.ok.stk with e | ⟨e, hf⟩
  · rw [e]; exact I.funs
  · rw [e]
    obtain ⟨m, hn, _⟩ := I.loc
    refine .cons (by rw [I.ok.kind]; decide) hf hn ?_ I.funs
    exact Heap.get?_none_of_le (Nat.le_trans I.ok.bsz I.ok.above)
theorem Inv.stkSub (I : Inv X pins σ H s) : ∀ b ∈ frs X.stack, b ∈ X.env.locals :: X.fs := fun b hb => by
  rcases I.ok.stk with e | ⟨e, hf⟩
  · rw [e] at hb; exact List.mem_cons_of_mem _ hb
  · rw [e] at hb
    unfold frs at hb
    rw [List.filterMap_cons, hf] at hb
    exact hb
theorem Inv.stkFree (I : Inv X pins σ H s) : ∀ b ∈ frs X.stack, H b = none := fun b hb => by
  rcases List.mem_cons.mp (I.stkSub b hb) with e | hb
  · rw [e]; exact I.free
  · obtain ⟨_, o, ho, _⟩ := I.ok.funs.mem hb
    exact I.base.free b o ho (I.ok.frf b hb) fun z => I.ok.exfs b z hb

theorem Inv.step {g' : Array GenState} {t' : Nat} {d' : Drawn} {ch : List Addr} (I : Inv X pins σ H s)
    (hch : ∀ b ∈ ch, (b ∈ X.ex ∨ X.s₀.heap.objs.size ≤ b) ∧ b ≠ X.env.locals ∧ (∀ x c, X.env.cells.lookup x = some c → c ≠ b) ∧ ∀ p ∈ X.pn ++ pins, p.1 ≠ b)
    (keep : ∀ b o, b ≠ X.env.locals → b ∉ X.fs → b ∉ ch → s.heap.get? b = some o → H b = none → h'.get? b = some o)
    (slot : ∀ b o, b ≠ X.env.locals → b ∈ X.fs → b ∉ ch → s.heap.get? b = some o → H b = none → ∃ sl, h'.get? b = some { o with slots := sl }) (free : ∀ b o, b ∉ ch → s.heap.get? b = some o → H b = none → H' b = none)
    (there : ∀ b o, b ∉ ch → s.heap.get? b = some o → ∃ o', h'.get? b = some o')
    (tups : ∀ b xs, H b = some (.tup xs) → H' b = some (.tup xs)) (frzs : ∀ b o u, H b = some (.frz o u) → H' b = some (.frz o u)) (tbls : ∀ b ps, H b = some (.tbl ps) → ∃ more, H' b = some (.tbl (ps ++ more)))
    (ns : ∀ m, s.heap.Ns X.env.locals m → h'.Ns X.env.locals m) (hok : HOk X.prog X.w H' h') (hg : AllBare g') :
    Inv X pins σ H' { s with heap := h', gens := g', drawn := d', toks := t' } := by
  have neL : ∀ b o, X.s₀.heap.get? b = some o → b ≠ X.env.locals := fun b o e => Nat.ne_of_lt (Nat.lt_of_lt_of_le (Heap.lt_size e) I.ok.above)
  have neC : ∀ b o, X.s₀.heap.get? b = some o → b ∉ X.ex → b ∉ ch := fun b o e hx hb => by
    rcases (hch b hb).1 with z | z
    · exact hx z
    · exact absurd (Nat.lt_of_lt_of_le (Heap.lt_size e) z) (Nat.lt_irrefl _)
  have cellK : ∀ x c, X.env.cells.lookup x = some c → ∀ v, s.heap.IsCell c v → h'.IsCell c v := fun x c e v ⟨o, ho, hd⟩ => by
    have nch : c ∉ ch := fun z => (hch c z).2.2.1 x c e rfl
    by_cases hc : c ∈ X.fs
    · obtain ⟨sl, q⟩ := slot c o (I.cne x c e) hc nch ho (I.freeC x c e)
      exact ⟨_, q, hd⟩
    · exact ⟨o, keep c o (I.cne x c e) hc nch ho (I.freeC x c e), hd⟩
  refine ⟨I.ok, I.os, hg, ⟨fun b o e n hb hx => ?_, fun b o e n hb hx => ?_, fun b o e n hx => ?_, fun b o e hx => ?_, fun b xs e => tups b xs (I.base.tups b xs e), fun b o xs e => frzs b o xs (I.base.frzs b o xs e), fun b ps e => ?_⟩, ?_, fun x c e => ?_, ?_, fun x c e => ?_, fun p hp => ?_, hok, I.len⟩
  · exact keep b o (neL b o e) hb (neC b o e hx) (I.base.keep b o e n hb hx) (I.base.free b o e n hx)
  · obtain ⟨sl, e1⟩ := I.base.slot b o e n hb hx
    obtain ⟨sl', e2⟩ := slot b _ (neL b o e) hb (neC b o e hx) e1 (I.base.free b o e n hx)
    exact ⟨sl', e2⟩
  · obtain ⟨o', e1⟩ := I.base.there b o e hx
    exact free b o' (neC b o e hx) e1 (I.base.free b o e n hx)
  · obtain ⟨o', e1⟩ := I.base.there b o e hx
    exact there b o' (neC b o e hx) e1
  · obtain ⟨m1, e1⟩ := I.base.tbls b ps e
    obtain ⟨m2, e2⟩ := tbls b _ e1
    exact ⟨m1 ++ m2, by rw [e2, Array.append_assoc]⟩
  · obtain ⟨m, hn, hl⟩ := I.loc
    refine ⟨m, ns m hn, fun i x v e1 e2 e3 => ?_⟩
    obtain ⟨u, r, l⟩ := hl i x v e1 e2 e3
    refine ⟨u, r, ?_⟩
    rcases l with l | ⟨k, c, e, z⟩
    · exact .inl l
    · exact .inr ⟨k, c, e, cellK x c e _ z⟩
  · obtain ⟨v, z⟩ := I.cell x c e
    exact ⟨v, cellK x c e v z⟩
  · obtain ⟨m, ⟨o, _, _, ho, _⟩, _⟩ := I.loc
    exact free _ o (fun z => (hch _ z).2.1 rfl) ho I.free
  · obtain ⟨v, o, ho, hd⟩ := I.cell x c e
    exact free c o (fun z => (hch c z).2.2.1 x c e rfl) ho (I.freeC x c e)
  · obtain ⟨e, n, ne, nf, d⟩ := I.pin p hp
    have nch : p.1 ∉ ch := fun z => (hch p.1 z).2.2.2 p hp rfl
    exact ⟨keep p.1 p.2 ne nf nch e n, free p.1 p.2 nch e n, ne, nf, d⟩
theorem Inv.un {t' : Nat} (I : Inv X pins σ H s) (u : Un X.fs [] H H' s.heap h') (hok : HOk X.prog X.w H' h') : Inv X pins σ H' { s with heap := h', toks := t' } := by
  obtain ⟨m, ⟨o, es, ep, ho, r⟩, _⟩ := id I.loc
  obtain ⟨sl, hL⟩ := u.any ho I.free (by simp)
  exact I.step (g' := s.gens) (d' := s.drawn) (ch := []) (fun _ z => nomatch z) (fun b o _ hb _ e n => u.keep b o e n hb (by simp)) (fun b o _ hb _ e n => u.slot b o e n hb (by simp)) (fun b o _ e n => u.free b o e n (by simp)) (fun b o _ e => u.there b o e (by simp)) u.tups u.frzs u.tbls (fun m' hm => by
    obtain ⟨o', es', ep', ho', r'⟩ := hm
    rw [ho] at ho'; cases ho'
    exact ⟨_, es', ep', hL, r'⟩) hok I.bare
theorem Inv.call {g' : Array GenState} {t' : Nat} {d' : Drawn} {ch : List Addr} (I : Inv X pins σ H s) (u : Un (frs X.stack) ch H H' s.heap h') (hok : HOk X.prog X.w H' h') (hg : AllBare g')
    (hch : ∀ b ∈ ch, (b ∈ X.ex ∨ X.s₀.heap.objs.size ≤ b) ∧ b ≠ X.env.locals ∧ (∀ x c, X.env.cells.lookup x = some c → c ≠ b) ∧ ∀ p ∈ X.pn ++ pins, p.1 ≠ b) :
    Inv X pins σ H' { s with heap := h', gens := g', drawn := d', toks := t' } := by
  obtain ⟨m, ⟨o, es, ep, ho, r⟩, _⟩ := id I.loc
  obtain ⟨sl, hL⟩ := u.any ho I.free fun z => (hch _ z).2.1 rfl
  exact I.step (ch := ch) hch (fun b o hL hb hc e n => u.keep b o e n (fun z => (List.mem_cons.mp (I.stkSub b z)).elim hL hb) hc) (fun b o _ _ hc e n => u.any e n hc) (fun b o hc e n => u.free b o e n hc) (fun b o hc e => u.there b o e hc) u.tups u.frzs u.tbls (fun m' hm => by
    obtain ⟨o', es', ep', ho', r'⟩ := hm
    rw [ho] at ho'; cases ho'
    exact ⟨_, es', ep', hL, r'⟩) hok hg
theorem Inv.turned {t' : Nat} {it : Addr} (I : Inv X pins σ H s) (k : ∀ b o, b ≠ it → s.heap.get? b = some o → h'.get? b = some o) (hn : H it = none) (hL : it ≠ X.env.locals)
    (h1 : it ∈ X.ex ∨ X.s₀.heap.objs.size ≤ it) (h2 : ∀ x c, X.env.cells.lookup x = some c → c ≠ it) (h3 : ∀ p ∈ X.pn ++ pins, p.1 ≠ it) : Inv X pins σ H { s with heap := h', toks := t' } := by
  have nit : ∀ b u, H b = some u → b ≠ it := fun b u e z => by rw [z, hn] at e; cases e
  refine I.step (g' := s.gens) (d' := s.drawn) (ch := [it]) (fun b hb => ?_) (fun b o _ _ hc e _ => k b o (fun z => hc (by simp [z])) e) (fun b o _ _ hc e _ => ⟨o.slots, k b o (fun z => hc (by simp [z])) e⟩) (fun _ _ _ _ n => n)
    (fun b o hc e => ⟨o, k b o (fun z => hc (by simp [z])) e⟩) (fun _ _ e => e) (fun _ _ _ e => e) (fun b ps e => ⟨#[], by rw [e]; simp⟩) (fun m hm => ?_) (fun b u e => ?_) I.bare
  · have e : b = it := by simpa using hb
    subst e
    exact ⟨h1, hL, h2, h3⟩
  · obtain ⟨o, es, ep, ho, r⟩ := hm
    exact ⟨o, es, ep, k _ o (Ne.symm hL) ho, r⟩
  · refine (I.hok b u e).stay (fun c v hc q => k c v ?_ q) (fun _ q => q) fun _ _ q => q
    rcases hc with z | z
    · rw [z]; exact nit b u e
    · exact nit c _ z
theorem Inv.tok (I : Inv X pins σ H s) (t : Nat) : Inv X pins σ H { s with toks := t } := I.un (h' := s.heap) (t' := t) Un.refl I.hok
theorem Inv.kept {t' : Nat} (I : Inv X pins σ H s) (k : ∀ b u, s.heap.get? b = some u → h'.get? b = some u) : Inv X pins σ H { s with heap := h', toks := t' } := I.un (Un.kept k) (I.hok.kept k)
theorem Inv.laid {a : Addr} {o : HO} {t' : Nat} (I : Inv X pins σ H s) (k : ∀ b u, s.heap.get? b = some u → h'.get? b = some u) (hp : s.heap.objs.size ≤ a) (new : ObjOk X.prog X.w (upd H a o) h' a o) :
    Inv X pins σ (upd H a o) { s with heap := h', toks := t' } := I.un (Un.laid k hp (I.hok.fresh hp)) (I.hok.laid k hp new)
theorem Inv.write {x e : Addr} {o : HO} {t' : Nat} (I : Inv X pins σ H s) (mu : Mut (H x)) (he : e = x ∨ H e = some (.own x)) (k : ∀ b u, b ≠ e → s.heap.get? b = some u → h'.get? b = some u) (heo : ∃ u, h'.get? e = some u)
    (new : ObjOk X.prog X.w (upd H x o) h' x o) : Inv X pins σ (upd H x o) { s with heap := h', toks := t' } := I.un (Un.write mu he k heo) (I.hok.write mu he k heo new)
theorem Inv.pins_of {pins' : List (Addr × Obj)} (I : Inv X pins σ H s) (h : ∀ p ∈ pins', s.heap.get? p.1 = some p.2 ∧ H p.1 = none ∧ p.1 ≠ X.env.locals ∧ p.1 ∉ X.fs ∧ ∀ v, p.2.data ≠ .cell v) : Inv X pins' σ H s :=
  ⟨I.ok, I.os, I.bare, I.base, I.loc, I.cell, I.free, I.freeC, fun p hp => (List.mem_append.mp hp).elim (fun z => I.pin p (List.mem_append_left _ z)) (h p), I.hok, I.len⟩

theorem nodup_ix {N : List Str} (hN : N.Nodup) {i j : Nat} {x : Str} (a : N[i]? = some x) (b : N[j]? = some x) : i = j := by
  obtain ⟨h1, e1⟩ := List.getElem?_eq_some_iff.mp a
  obtain ⟨h2, e2⟩ := List.getElem?_eq_some_iff.mp b
  exact (List.getElem_inj hN).mp (e1.trans e2.symm)

theorem store_ok2 {M : Model} {A : Around} {E : Value → Shared → Prop} {i : Nat} {x : Str} {v : V} {u : Value} {Q : Unit → Shared → Prop} (I : Inv X pins σ H s) (hN : X.N.Nodup) (hi : X.N[i]? = some x) (hx : Loc X.env.scope x) (r : RelV v u)
    (h : ∀ s', Inv X pins (σ.set i (some v)) H s' → (∃ a, Heap.SameBut a s.heap s'.heap ∧ (a = X.env.locals ∨ X.env.cells.lookup x = some a)) → Q () s') (hf : X.fn x = true ∨ X.env.scope.names.lookup x = some .local := by first | exact .inl rfl | exact .inr rfl | assumption) : wpAny M A (storeName X.env x u) Q E s := by
  obtain ⟨m, hn, hl⟩ := id I.loc
  have hcls : (X.env.scope.kind == .class || (X.env.scope.kind == .module && X.env.locals != X.env.globals)) = false := by rw [I.ok.kind]; rfl
  have hiσ : i < σ.length := by rw [I.len]; exact (List.getElem?_eq_some_iff.mp hi).1
  have cne := I.cne
  have tracked : ∀ {a : Addr} {h' : Heap}, (∃ o, s.heap.get? a = some o ∧ H a = none) → Heap.SameBut a s.heap h' → HOk X.prog X.w H h' := fun {a h'} ha hs b ob e => by
    obtain ⟨_, _, hfree⟩ := ha
    refine (I.hok b ob e).stay (fun c w' hc q => (hs.2 c ?_).trans q) (fun _ q => q) fun _ _ q => q
    rintro rfl
    rcases hc with rfl | hc
    · rw [hfree] at e; cases e
    · rw [hfree] at hc; cases hc
  rcases hx with hk | hk
  · refine wpAny_storeName_local hk hn (fun h' hn' hs => ?_) hcls
    obtain ⟨oL, _, _, hoL, _⟩ := id hn
    refine h _ ⟨I.ok, I.os, I.bare, ⟨fun b o e n hb hx => ?_, fun b o e n hb hx => ?_, I.base.free, fun b o e hx => ?_, I.base.tups, I.base.frzs, I.base.tbls⟩, ⟨_, hn', fun j y v' e1 e2 e3 => ?_⟩, fun y c e => ?_, I.free, I.freeC, fun p hp => ?_, tracked ⟨oL, hoL, I.free⟩ hs, by simpa using I.len⟩ ⟨_, hs, .inl rfl⟩
    · exact (hs.2 b (Nat.ne_of_lt (Nat.lt_of_lt_of_le (Heap.lt_size e) I.ok.above))).trans (I.base.keep b o e n hb hx)
    · obtain ⟨sl, e1⟩ := I.base.slot b o e n hb hx
      exact ⟨sl, (hs.2 b (Nat.ne_of_lt (Nat.lt_of_lt_of_le (Heap.lt_size e) I.ok.above))).trans e1⟩
    · obtain ⟨o', e1⟩ := I.base.there b o e hx
      exact ⟨o', (hs.2 b (Nat.ne_of_lt (Nat.lt_of_lt_of_le (Heap.lt_size e) I.ok.above))).trans e1⟩
    · by_cases hj : j = i
      · subst hj
        rw [hi] at e1; cases e1
        rw [List.getElem?_set_self hiσ] at e2
        cases e2
        exact ⟨u, r, .inl ⟨hk, by simp⟩⟩
      · rw [List.getElem?_set_ne (Ne.symm hj)] at e2
        obtain ⟨u', r', q⟩ := hl j y v' e1 e2 e3
        refine ⟨u', r', ?_⟩
        rcases q with ⟨k, e⟩ | ⟨k, c, e, z⟩
        · refine .inl ⟨k, ?_⟩
          have : y ≠ x := fun e => hj (nodup_ix hN e1 (e ▸ hi))
          simp [this, e]
        · exact .inr ⟨k, c, e, z.sameBut hs (cne y c e)⟩
    · obtain ⟨w', z⟩ := I.cell y c e
      exact ⟨w', z.sameBut hs (cne y c e)⟩
    · obtain ⟨e, n, ne, nf, d⟩ := I.pin p hp
      exact ⟨(hs.2 p.1 ne).trans e, n, ne, nf, d⟩
  · have hfn : X.fn x = true := by
      rcases hf with z | z
      · exact z
      · rw [z] at hk; cases hk
    obtain ⟨c, hc⟩ := I.ok.has x (.inl hk)
    obtain ⟨w', z⟩ := I.cell x c hc
    refine wpAny_storeName_cell I.ok.kind hk hc z (fun h' hc' hs => ?_)
    obtain ⟨oc, hoc, hocd⟩ := id z
    refine h { s with heap := h' } ⟨I.ok, I.os, I.bare, ⟨fun b o e n hb hx => ?_, fun b o e n hb hx => ?_, I.base.free, fun b o e hx => ?_, I.base.tups, I.base.frzs, I.base.tbls⟩, ⟨m, hn.sameBut hs (Ne.symm (cne x c hc)), fun j y v' e1 e2 e3 => ?_⟩, fun y c' e => ?_, I.free, I.freeC, fun p hp => ?_, tracked ⟨oc, hoc, I.freeC x c hc⟩ hs, by simpa using I.len⟩ ⟨c, hs, .inr hc⟩
    · exact (hs.2 b (Nat.ne_of_lt (Nat.lt_of_lt_of_le (Heap.lt_size e) (I.ok.cab x c hfn hc)))).trans (I.base.keep b o e n hb hx)
    · obtain ⟨sl, e1⟩ := I.base.slot b o e n hb hx
      exact ⟨sl, (hs.2 b (Nat.ne_of_lt (Nat.lt_of_lt_of_le (Heap.lt_size e) (I.ok.cab x c hfn hc)))).trans e1⟩
    · obtain ⟨o', e1⟩ := I.base.there b o e hx
      exact ⟨o', (hs.2 b (Nat.ne_of_lt (Nat.lt_of_lt_of_le (Heap.lt_size e) (I.ok.cab x c hfn hc)))).trans e1⟩
    · by_cases hj : j = i
      · subst hj
        rw [hi] at e1; cases e1
        rw [List.getElem?_set_self hiσ] at e2
        cases e2
        exact ⟨u, r, .inr ⟨.inl hk, c, hc, hc'⟩⟩
      · rw [List.getElem?_set_ne (Ne.symm hj)] at e2
        obtain ⟨u', r', q⟩ := hl j y v' e1 e2 e3
        refine ⟨u', r', ?_⟩
        rcases q with q | ⟨k, c', e, z'⟩
        · exact .inl q
        · refine .inr ⟨k, c', e, z'.sameBut hs ?_⟩
          rintro rfl
          exact hj (nodup_ix hN e1 (I.ok.inj _ _ _ e hc ▸ hi))
    · by_cases hcc : c' = c
      · subst hcc; exact ⟨_, hc'⟩
      · obtain ⟨w2, z2⟩ := I.cell y c' e
        exact ⟨w2, z2.sameBut hs hcc⟩
    · obtain ⟨e, n, ne, nf, d⟩ := I.pin p hp
      refine ⟨(hs.2 p.1 ?_).trans e, n, ne, nf, d⟩
      intro q
      rw [q, hoc] at e
      have q' : oc = p.2 := Option.some.inj e
      exact d w' (by rw [← q']; exact hocd)
theorem store_ok {M : Model} {A : Around} {E : Value → Shared → Prop} {i : Nat} {x : Str} {v : V} {u : Value} {Q : Unit → Shared → Prop} (I : Inv X pins σ H s) (hN : X.N.Nodup) (hi : X.N[i]? = some x) (hx : Loc X.env.scope x) (r : RelV v u)
    (h : ∀ s', Inv X pins (σ.set i (some v)) H s' → Q () s') (hf : X.fn x = true ∨ X.env.scope.names.lookup x = some .local := by first | exact .inl rfl | exact .inr rfl | assumption) : wpAny M A (storeName X.env x u) Q E s :=
  store_ok2 I hN hi hx r (fun s' I' _ => h s' I') hf
theorem Inv.call' {s' : Shared} {ch : List Addr} (I : Inv X pins σ H s) (ho : s'.os = s.os) (u : Un (frs X.stack) ch H H' s.heap s'.heap) (hok : HOk X.prog X.w H' s'.heap) (hg : AllBare s'.gens)
    (hch : ∀ b ∈ ch, (b ∈ X.ex ∨ X.s₀.heap.objs.size ≤ b) ∧ b ≠ X.env.locals ∧ (∀ x c, X.env.cells.lookup x = some c → c ≠ b) ∧ ∀ p ∈ X.pn ++ pins, p.1 ≠ b) : Inv X pins σ H' s' := by
  obtain ⟨h', g', d', t', o'⟩ := s'
  have e : o' = s.os := ho
  subst e
  exact I.call (g' := g') (t' := t') (d' := d') u hok hg hch
end

noncomputable abbrev XK := Value → Option Addr → Hp → Prop
noncomputable abbrev St := List (Option V)
noncomputable abbrev VK := V → Hp → Prop
noncomputable abbrev TE := St → Hp → VK → Prop
noncomputable abbrev TT := St → Hp → (Bool → Hp → Prop) → Prop
noncomputable abbrev TA := St → Hp → (List V → Hp → Prop) → Prop
structure Ends where
  nx : St → Hp → Prop
  rt : VK
  bk : St → Hp → Prop := fun _ _ => False
  ct : St → Hp → Prop := fun _ _ => False
noncomputable abbrev TS := Ends → St → Hp → Prop

noncomputable def EP (X : Cx) (pins : List (Addr × Obj)) (σ : St) (Q : VK) (u : Value) (s' : Shared) : Prop := ∃ v H', Inv X pins σ H' s' ∧ RelV v u ∧ Q v H'
noncomputable def TP (X : Cx) (pins : List (Addr × Obj)) (σ : St) (Q : Bool → Hp → Prop) (b : Bool) (s' : Shared) : Prop := ∃ H', Inv X pins σ H' s' ∧ Q b H'
noncomputable def AP (X : Cx) (pins : List (Addr × Obj)) (σ : St) (Q : List V → Hp → Prop) (us : List Value) (s' : Shared) : Prop := ∃ vs H', Inv X pins σ H' s' ∧ Vals vs us ∧ Q vs H'
noncomputable def SP (X : Cx) (pins : List (Addr × Obj)) (D : Ends) (f : Flow) (s' : Shared) : Prop :=
  match f with
  | .next => ∃ σ' H', Inv X pins σ' H' s' ∧ D.nx σ' H'
  | .brk => ∃ σ' H', Inv X pins σ' H' s' ∧ D.bk σ' H'
  | .cont => ∃ σ' H', Inv X pins σ' H' s' ∧ D.ct σ' H'
  | .ret u => ∃ v σ' H', Inv X pins σ' H' s' ∧ RelV v u ∧ D.rt v H'

noncomputable def PE (X : Cx) (e : Expr) (t : TE) : Prop :=
  ∀ (pins : List (Addr × Obj)) (s : Shared) (σ : St) (H : Hp) (Q : VK), Inv X pins σ H s → t σ H Q → wpAny (model X.prog X.w) X.A (eval e X.env) (EP X pins σ Q) X.xe s
noncomputable def PT (X : Cx) (e : Expr) (t : TT) : Prop :=
  ∀ (pins : List (Addr × Obj)) (s : Shared) (σ : St) (H : Hp) (Q : Bool → Hp → Prop), Inv X pins σ H s → t σ H Q → wpAny (model X.prog X.w) X.A (isTrue e X.env (eval e X.env)) (TP X pins σ Q) X.xe s
noncomputable def PW (X : Cx) (e : Expr) (t : TT) : Prop :=
  ∀ (whole : Sem Value) (pins : List (Addr × Obj)) (s : Shared) (σ : St) (H : Hp) (Q : Bool → Hp → Prop), Inv X pins σ H s → t σ H Q → wpAny (model X.prog X.w) X.A (isTrue e X.env whole) (TP X pins σ Q) X.xe s
theorem PW.pt {X : Cx} {e : Expr} {t : TT} (h : PW X e t) : PT X e t := h _
noncomputable def PA (X : Cx) (es : List Expr) (t : TA) : Prop :=
  ∀ (pos : Pos) (pins : List (Addr × Obj)) (s : Shared) (σ : St) (H : Hp) (Q : List V → Hp → Prop), Inv X pins σ H s → t σ H Q → wpAny (model X.prog X.w) X.A (spliced (backTo pos (starEach es X.env))) (AP X pins σ Q) X.xe s
noncomputable def PS (X : Cx) (st : Stmt) (t : TS) : Prop :=
  ∀ (pins : List (Addr × Obj)) (s : Shared) (σ : St) (H : Hp) (D : Ends), Inv X pins σ H s → t D σ H → wpAny (model X.prog X.w) X.A (exec st X.env) (SP X pins D) X.xe s
noncomputable def PSs (X : Cx) (st : List Stmt) (t : TS) : Prop :=
  ∀ (pins : List (Addr × Obj)) (s : Shared) (σ : St) (H : Hp) (D : Ends), Inv X pins σ H s → t D σ H → wpAny (model X.prog X.w) X.A (execs st X.env) (SP X pins D) X.xe s
theorem thn {α : Type} {t : Sem α} {Q Q' : α → Shared → Prop} {M : Model} {A : Around} {E : Value → Shared → Prop} {s : Shared} (h : wpAny M A t Q E s) (hQ : ∀ a s, Q a s → Q' a s) : wpAny M A t Q' E s := wpAny_mono h hQ fun _ _ x => x
end L2

namespace L2
open PySem PySem.Spec PyProof.Rows
section
variable {X : Cx}

noncomputable def tVar (i : Nat) : TE := fun σ H Q => ∃ v, σ[i]? = some (some v) ∧ Q v H
noncomputable def tC (v : V) : TE := fun _ H Q => Q v H
theorem pe_var {i : Nat} {x : Str} {pos : Pos} (hN : X.N[i]? = some x) (hv : Vis X.env.scope x) (hd : (x == ("__debug__" : Str)) = false := by decide) (hcd : (x == ("__classdict__" : Str)) = false := by decide) : PE X (.Name x pos) (tVar i) := by
  intro pins s σ H Q I h
  obtain ⟨v, e, h⟩ := h
  obtain ⟨m, hn, hl⟩ := I.loc
  obtain ⟨u, r, l⟩ := hl i x v hN e hv
  have fin : EP X pins σ Q u s := ⟨v, H, I, r, h⟩
  rcases l with ⟨hk, hm⟩ | ⟨hk, c, hc, hcell⟩
  · exact wpAny_Name (wpAny_loadName_local I.ok.kind hk hn hm fin) hd
  · rcases hk with hk | hk
    · exact wpAny_Name (wpAny_loadName_cell I.ok.kind hk hc hcell fin) hd
    · exact wpAny_Name (wpAny_loadName_free I.ok.kind hk hc hcell fin hcd) hd
theorem pe_int {i j pos} : PE X (.Constant (.int i) j pos) (tC (.int i)) := fun _ _ _ H _ I h => wpAny_Constant_int ⟨.int i, H, I.tok _, ⟨_, rfl⟩, h⟩
theorem pe_bl {b j pos} : PE X (.Constant (.bool b) j pos) (tC (.bl b)) := fun _ _ _ H _ I h => Constant_bool ⟨.bl b, H, I, rfl, h⟩
theorem pe_non {j pos} : PE X (.Constant .none j pos) (tC .non) := fun _ _ _ H _ I h => Constant_none ⟨.non, H, I, rfl, h⟩
theorem pe_str {x j pos} : PE X (.Constant (.str x) j pos) (tC (.str x)) := fun _ _ _ H _ I h => Calls.Constant_str ⟨.str x, H, I.tok _, ⟨_, rfl⟩, h⟩

noncomputable def Gl (X : Cx) (x : Str) : Prop := X.env.kindOf x = some .globalImplicit
theorem ld_glob {E : Value → Shared → Prop} {pins : List (Addr × Obj)} {s : Shared} {σ : St} {H : Hp} {x : Str} {u : Value} {pos : Pos} {Q : Value → Shared → Prop} (I : Inv X pins σ H s) (hg : Gl X x) (hm : X.mg x = some u) (h : Q u s)
    (hd : (x == ("__debug__" : Str)) = false := by decide) : wpAny (model X.prog X.w) X.A (eval (.Name x pos) X.env) Q E s :=
  Calls.Name_function_global I.ok.kind hg (Calls.loadGlobal_global (by rw [I.ok.glob]; exact I.mod.glob.keeps I.bk) hm h) hd
theorem ld_blt {E : Value → Shared → Prop} {pins : List (Addr × Obj)} {s : Shared} {σ : St} {H : Hp} {x : Str} {u : Value} {pos : Pos} {Q : Value → Shared → Prop} (I : Inv X pins σ H s) (hg : Gl X x) (hm : X.mg x = none) (hv : bootBuiltins x = some u) (h : Q u s)
    (hn : x ≠ "__name__" := by decide) (hd : (x == ("__debug__" : Str)) = false := by decide) : wpAny (model X.prog X.w) X.A (eval (.Name x pos) X.env) Q E s := by
  obtain ⟨mb, h1, h2⟩ := I.mod.blt
  exact Calls.Name_function_global I.ok.kind hg (Calls.loadGlobal_builtin (by rw [I.ok.glob]; exact I.mod.glob.keeps I.bk) hm (by rw [I.ok.blt]; exact h1.keeps I.bk) ((h2 x hn).trans hv) h) hd
theorem pe_glob {x : Str} {v : V} {u : Value} {pos : Pos} (hg : Gl X x) (hm : X.mg x = some u) (r : RelV v u) (hd : (x == ("__debug__" : Str)) = false := by decide) : PE X (.Name x pos) (tC v) :=
  fun _ _ _ H _ I h => ld_glob I hg hm ⟨v, H, I, r, h⟩ hd
theorem pe_bltn {x : Str} {v : V} {u : Value} {pos : Pos} (hg : Gl X x) (hm : X.mg x = none) (hv : bootBuiltins x = some u) (r : RelV v u) (hn : x ≠ "__name__" := by decide) (hd : (x == ("__debug__" : Str)) = false := by decide) : PE X (.Name x pos) (tC v) :=
  fun _ _ _ H _ I h => ld_blt I hg hm hv ⟨v, H, I, r, h⟩ hn hd

variable {a b : Expr} {ta tb : TE} {pos : Pos}

noncomputable def tB (t : TE) : TT := fun σ H Q => t σ H fun x H1 => ∃ c, x = .bl c ∧ Q c H1
theorem pt_val {e : Expr} {t : TE} (h : PE X e t) (he : ∀ whole, isTrue e X.env whole = (do let v ← whole; standAt e.pos; holding [v] (truthy v)) := by intro _; rfl) : PT X e (tB t) := by
  intro pins s σ H Q I hw
  refine isTrue_plain (thn (h pins s σ H _ I hw) fun v s1 ⟨x, H1, I1, r1, q1⟩ => ?_) (he _)
  obtain ⟨d, rfl, q⟩ := q1
  cases r1
  exact wpAny_truthy_bool ⟨H1, I1, q⟩

variable {tA tB' : TT} {rest : List Expr}
noncomputable def tOr (t u : TT) : TT := fun σ H Q => t σ H fun c H1 => if c = true then Q true H1 else u σ H1 Q
noncomputable def tNot (t : TT) : TT := fun σ H Q => t σ H fun c H1 => Q (!c) H1
theorem pw_or1 (ha : PT X a tA) : PW X (.BoolOp .Or [a] pos) tA := by
  intro wh pins s σ H Q I h
  refine isTrue_or (thn (ha pins s σ H Q I h) fun c s1 e => ?_)
  cases c with
  | false => exact isTrue_or_nil e
  | true => exact e
theorem pw_or (ha : PT X a tA) (hb : PW X (.BoolOp .Or (b :: rest) pos) tB') : PW X (.BoolOp .Or (a :: b :: rest) pos) (tOr tA tB') := by
  intro wh pins s σ H Q I h
  refine isTrue_or (thn (ha pins s σ H _ I h) fun c s1 ⟨H1, I1, q1⟩ => ?_)
  cases c with
  | true => exact ⟨H1, I1, q1⟩
  | false => exact hb wh pins s1 σ H1 Q I1 q1
theorem pt_not (ha : PT X a tA) : PT X (.UnaryOp .Not a pos) (tNot tA) := by
  intro pins s σ H Q I h
  exact isTrue_not (ha pins s σ H (fun c H1 => Q (!c) H1) I h)
noncomputable def tAndV (ta tb : TE) : TE := fun σ H Q => ta σ H fun x H1 => ∃ c, x = .bl c ∧ if c = true then tb σ H1 Q else Q (.bl false) H1
theorem pe_one {op} {t : TE} (h : PE X a t) : PE X (.BoolOp op [a] pos) t := fun pins s σ H Q I hw => BoolOp_one (h pins s σ H Q I hw)
theorem pe_and (ha : PE X a ta) (hb : PE X (.BoolOp .And (b :: rest) pos) tb) : PE X (.BoolOp .And (a :: b :: rest) pos) (tAndV ta tb) := by
  intro pins s σ H Q I h
  refine BoolOp_and (thn (ha pins s σ H _ I h) fun v s1 ⟨x, H1, I1, r1, q1⟩ => ?_)
  obtain ⟨c, rfl, q1⟩ := q1
  cases r1
  refine wpAny_truthy_bool ?_
  cases c with
  | true => exact hb pins s1 σ H1 Q I1 q1
  | false => exact ⟨.bl false, H1, I1, rfl, q1⟩
noncomputable def tIf (t : TT) (ta tb : TE) : TE := fun σ H Q => t σ H fun c H1 => if c = true then ta σ H1 Q else tb σ H1 Q
theorem pe_ifExp {c : Expr} (hc : PT X c tA) (ha : PE X a ta) (hb : PE X b tb) : PE X (.IfExp c a b pos) (tIf tA ta tb) := by
  intro pins s σ H Q I h
  refine wpAny_IfExp (thn (hc pins s σ H _ I h) fun d s1 ⟨H1, I1, q1⟩ => ?_)
  cases d with
  | true => exact ha pins s1 σ H1 Q I1 q1
  | false => exact hb pins s1 σ H1 Q I1 q1
end
end L2

namespace L2
open PySem PySem.Spec PyProof.Rows

noncomputable def SqL (K : PySem.W.Frag) (H : Hp) (a : Addr) (xs : List V) : Prop :=
  Rd H a (.lst xs) ∨
    ∃ (o : Obj) (its : Array Value) (n : Nat), K.lookup a = some o ∧ o.cls = .type "list" ∧ o.dict = none ∧ o.data = .seq its n ∧ its.size ≤ sizeLine ∧ Vals xs its.toList
noncomputable def SqT (K : PySem.W.Frag) (H : Hp) (a : Addr) (xs : List V) : Prop :=
  Rd H a (.tup xs) ∨
    ∃ (o : Obj) (its : Array Value) (n : Nat), K.lookup a = some o ∧ o.cls = .type "tuple" ∧ o.data = .seq its n ∧ its.size ≤ sizeLine ∧ Vals xs its.toList
noncomputable def absV : Value → Option V
  | .none => some .non
  | .bool b => some (.bl b)
  | .int i _ => some (.int i)
  | .str x _ => some (.str x)
  | .bytes b _ => some (.byt b)
  | .float b _ => some (.flt b)
  | .ref a => some (.ref a)
  | .type n => some (.ty n)
  | _ => none
theorem RelV.abs {x : V} {u : Value} (r : RelV x u) : absV u = some x := by
  cases x with
  | non => cases r; rfl
  | bl _ => cases r; rfl
  | int _ => obtain ⟨t, rfl⟩ := r; rfl
  | str _ => obtain ⟨t, rfl⟩ := r; rfl
  | byt _ => obtain ⟨t, rfl⟩ := r; rfl
  | flt _ => obtain ⟨t, rfl⟩ := r; rfl
  | ref _ => cases r; rfl
  | ty _ => cases r; rfl
theorem RelV.inj {x y : V} {u : Value} (r : RelV x u) (q : RelV y u) : x = y := Option.some.inj (r.abs.symm.trans q.abs)
theorem Vals.inj : ∀ {xs ys : List V} {us : List Value}, Vals xs us → Vals ys us → xs = ys
  | _, _, _, .nil, .nil => rfl
  | _, _, _, .cons r t, .cons r' t' => by rw [r.inj r', Vals.inj t t']
section
variable {X : Cx} {pins : List (Addr × Obj)} {σ : St} {H : Hp} {s : Shared} {a : Addr} {xs ys : List V}
theorem SqL.of {K : PySem.W.Frag} (h : H a = some (.lst xs)) : SqL K H a xs := .inl (.inl h)
theorem SqT.of {K : PySem.W.Frag} (h : H a = some (.tup xs)) : SqT K H a xs := .inl (.inl h)
theorem Inv.list (I : Inv X pins σ H s) (h : SqL X.K H a xs) : ∃ its : List Value, Vals xs its ∧ PlainL s.heap a its.toArray ∧ xs.length ≤ sizeLine := by
  rcases h with h | ⟨o, its, n, hk, hc, hd, hs, hz, r⟩
  · obtain ⟨z, its, n, r, e⟩ := h.ok I.hok
    exact ⟨its, r, ⟨_, n, e, rfl, rfl, rfl⟩, z⟩
  · refine ⟨its.toList, r, ⟨o, n, I.kIn a o hk, hc, hd, by simpa using hs⟩, ?_⟩
    have e := r.length
    simp only [Array.length_toList] at e
    omega
theorem Inv.tuple (I : Inv X pins σ H s) (h : SqT X.K H a xs) : ∃ its : List Value, Vals xs its ∧ IsTup s.heap a its.toArray ∧ xs.length ≤ sizeLine := by
  rcases h with h | ⟨o, its, n, hk, hc, hs, hz, r⟩
  · obtain ⟨z, its, r, p⟩ := h.ok I.hok
    exact ⟨its, r, p, z⟩
  · refine ⟨its.toList, r, ⟨o, I.kIn a o hk, hc, n, by simpa using hs⟩, ?_⟩
    have e := r.length
    simp only [Array.length_toList] at e
    omega
theorem Inv.list_inj (I : Inv X pins σ H s) (h : SqL X.K H a xs) (h' : SqL X.K H a ys) : xs = ys := by
  obtain ⟨its, r, ⟨o, n, e, _, _, d⟩, _⟩ := I.list h
  obtain ⟨its', r', ⟨o', n', e', _, _, d'⟩, _⟩ := I.list h'
  rw [e] at e'; cases e'
  rw [d] at d'
  injection d' with d1 _
  have : its = its' := by simpa using congrArg Array.toList d1
  subst this
  exact r.inj r'
theorem Inv.tuple_inj (I : Inv X pins σ H s) (h : SqT X.K H a xs) (h' : SqT X.K H a ys) : xs = ys := by
  obtain ⟨its, r, ⟨o, e, _, n, d⟩, _⟩ := I.tuple h
  obtain ⟨its', r', ⟨o', e', _, n', d'⟩, _⟩ := I.tuple h'
  rw [e] at e'; cases e'
  rw [d] at d'
  injection d' with d1 _
  have : its = its' := by simpa using congrArg Array.toList d1
  subst this
  exact r.inj r'
end

noncomputable abbrev Cx.wish (X : Cx) (E : Value → Shared → Prop) : Cx := { X with xe := E }
noncomputable abbrev Cx.nox (X : Cx) : Cx := X.wish fun _ _ => False
theorem Cx.Ok.wish {X : Cx} (ok : X.Ok) (E : Value → Shared → Prop) : (X.wish E).Ok :=
  ⟨ok.mod, ok.kind, ok.glob, ok.blt, ok.above, ok.inj, ok.has, ok.cab, ok.hd, ok.frames, ok.stk, ok.exf, ok.bs, ok.bsz, ok.noex, ok.exfs, ok.funs, ok.frf⟩
theorem Cx.Ok.unwish {X : Cx} {E : Value → Shared → Prop} (ok : (X.wish E).Ok) : X.Ok :=
  ⟨ok.mod, ok.kind, ok.glob, ok.blt, ok.above, ok.inj, ok.has, ok.cab, ok.hd, ok.frames, ok.stk, ok.exf, ok.bs, ok.bsz, ok.noex, ok.exfs, ok.funs, ok.frf⟩
section
variable {X : Cx} {pins : List (Addr × Obj)} {σ : St} {H : Hp} {s : Shared} {E : Value → Shared → Prop}
theorem Inv.wish (I : Inv X pins σ H s) (E : Value → Shared → Prop) : Inv (X.wish E) pins σ H s := ⟨I.ok.wish E, I.os, I.bare, I.base, I.loc, I.cell, I.free, I.freeC, I.pin, I.hok, I.len⟩
theorem Inv.unwish (I : Inv (X.wish E) pins σ H s) : Inv X pins σ H s := ⟨I.ok.unwish, I.os, I.bare, I.base, I.loc, I.cell, I.free, I.freeC, I.pin, I.hok, I.len⟩
theorem SP.unwish {D : Ends} {f : Flow} {s' : Shared} (h : SP (X.wish E) pins D f s') : SP X pins D f s' := by
  cases f with
  | next => obtain ⟨σ', H', I, q⟩ := h; exact ⟨σ', H', I.unwish, q⟩
  | brk => obtain ⟨σ', H', I, q⟩ := h; exact ⟨σ', H', I.unwish, q⟩
  | cont => obtain ⟨σ', H', I, q⟩ := h; exact ⟨σ', H', I.unwish, q⟩
  | ret u => obtain ⟨v, σ', H', I, r, q⟩ := h; exact ⟨v, σ', H', I.unwish, r, q⟩
theorem PE.nox {e : Expr} {t : TE} (h : PE X.nox e t) : PE X e t := fun pins s σ H Q I hw =>
  wpAny_mono (h pins s σ H Q (I.wish _) hw) (fun _ _ ⟨v, H', I', r, q⟩ => ⟨v, H', I'.unwish, r, q⟩) fun _ _ z => False.elim z
theorem PT.nox {e : Expr} {t : TT} (h : PT X.nox e t) : PT X e t := fun pins s σ H Q I hw =>
  wpAny_mono (h pins s σ H Q (I.wish _) hw) (fun _ _ ⟨H', I', q⟩ => ⟨H', I'.unwish, q⟩) fun _ _ z => False.elim z
theorem PSs.nox {st : List Stmt} {t : TS} (h : PSs X.nox st t) : PSs X st t := fun pins s σ H D I hw =>
  wpAny_mono (h pins s σ H D (I.wish _) hw) (fun _ _ q => q.unwish) fun _ _ z => False.elim z
end

section
variable {X : Cx} {st : Stmt} {rest : List Stmt} {t u : TS} {e : Expr} {te : TE} {pos : Pos}
noncomputable def tNext : TS := fun D σ H => D.nx σ H
noncomputable def tSeq (t u : TS) : TS := fun D σ H => t { D with nx := u D } σ H
theorem pss_nil : PSs X [] tNext := fun _ _ σ H _ I h => wpAny_execs_nil ⟨σ, H, I, h⟩
theorem pss_cons (h1 : PS X st t) (h2 : PSs X rest u) : PSs X (st :: rest) (tSeq t u) := by
  intro pins s σ H D I h
  refine wpAny_execs_cons (thn (h1 pins s σ H { D with nx := u D } I h) fun f s1 q => ?_)
  cases f with
  | next =>
    obtain ⟨σ', H', I', q⟩ := q
    exact h2 pins s1 σ' H' D I' q
  | ret v => exact q
  | brk => exact q
  | cont => exact q
theorem pss_one (h1 : PS X st t) : PSs X [st] t := by
  intro pins s σ H D I h
  refine wpAny_execs_cons (thn (h1 pins s σ H D I h) fun f s1 q => ?_)
  cases f with
  | next => exact wpAny_execs_nil q
  | ret v => exact q
  | brk => exact q
  | cont => exact q
theorem Inv.quiet {pins : List (Addr × Obj)} {σ : St} {H : Hp} {s : Shared} (I : Inv X pins σ H s) : interactive X.env = false := by simp [interactive, I.ok.kind]
noncomputable def tDrop (te : TE) : TS := fun D σ H => te σ H fun _ H1 => D.nx σ H1
theorem ps_expr (he : PE X e te) (hs : swapsWith e none pos.line X.env = pure false := by rfl) : PS X (.Expr e pos) (tDrop te) := by
  intro pins s σ H D I h
  exact wpAny_Expr_any (thn (he pins s σ H _ I h) fun v s1 ⟨x, H1, I1, r1, q1⟩ => ⟨σ, H1, I1, q1⟩) I.quiet hs
noncomputable def tRet (te : TE) : TS := fun D σ H => te σ H D.rt
theorem ps_ret (he : PE X e te) : PS X (.Return (some e) pos) (tRet te) := by
  intro pins s σ H D I h
  exact wpAny_Return_some (thn (he pins s σ H _ I h) fun v s1 ⟨x, H1, I1, r1, q1⟩ => ⟨x, σ, H1, I1, r1, q1⟩)
noncomputable def tIfS (c : TT) (t u : TS) : TS := fun D σ H => c σ H fun b H1 => if b = true then t D σ H1 else u D σ H1
theorem ps_if {c : Expr} {a b : List Stmt} {tc : TT} (hc : PT X c tc) (ha : PSs X a t) (hb : PSs X b u) : PS X (.If c a b pos) (tIfS tc t u) := by
  intro pins s σ H D I h
  refine wpAny_If (thn (hc pins s σ H _ I h) fun d s1 ⟨H1, I1, q1⟩ => ?_)
  cases d with
  | true => exact ha pins s1 σ H1 D I1 q1
  | false => exact hb pins s1 σ H1 D I1 q1
noncomputable def tNever : TS := fun _ _ _ => False
theorem ps_never : PS X st tNever := fun _ _ _ _ _ _ h => h.elim
theorem pss_never {sts : List Stmt} : PSs X sts tNever := fun _ _ _ _ _ _ h => h.elim
end

noncomputable abbrev TG := V → St → Hp → (St → Hp → Prop) → Prop
noncomputable abbrev TGs := List V → St → Hp → (St → Hp → Prop) → Prop
noncomputable def PG (X : Cx) (target : Expr) (t : TG) : Prop :=
  ∀ (pins : List (Addr × Obj)) (s : Shared) (σ : St) (H : Hp) (v : V) (u : Value) (Q : St → Hp → Prop), Inv X pins σ H s → RelV v u → t v σ H Q →
    wpAny (model X.prog X.w) X.A (assign target X.env u) (fun _ s' => ∃ σ' H', Inv X pins σ' H' s' ∧ Q σ' H') X.xe s
noncomputable def PGs (X : Cx) (ts : List Expr) (t : TGs) : Prop :=
  ∀ (pins : List (Addr × Obj)) (s : Shared) (σ : St) (H : Hp) (vs : List V) (us : List Value) (Q : St → Hp → Prop), Inv X pins σ H s → Vals vs us → t vs σ H Q →
    wpAny (model X.prog X.w) X.A (assignInOrder ((assignEach ts X.env).map (·.2)) us) (fun _ s' => ∃ σ' H', Inv X pins σ' H' s' ∧ Q σ' H') X.xe s
noncomputable abbrev TSet := V → V → V → Hp → (Hp → Prop) → Prop
noncomputable def PSet (X : Cx) (t : TSet) : Prop :=
  ∀ (pins : List (Addr × Obj)) (s : Shared) (σ : St) (H : Hp) (o i v : V) (ov iv u : Value) (Q : Hp → Prop), Inv X pins σ H s → RelV o ov → RelV i iv → RelV v u → t o i v H Q →
    wpAny (model X.prog X.w) X.A (setItem ov iv u) (fun _ s' => ∃ H', Inv X pins σ H' s' ∧ Q H') X.xe s
section
variable {X : Cx} {pos : Pos}
noncomputable def gName (i : Nat) : TG := fun v σ H Q => Q (σ.set i (some v)) H
theorem pg_name {i : Nat} {x : Str} (hN : X.N.Nodup) (hi : X.N[i]? = some x) (hx : Loc X.env.scope x) (hf : X.fn x = true ∨ X.env.scope.names.lookup x = some .local := by first | exact .inl rfl | exact .inr rfl | assumption) : PG X (.Name x pos) (gName i) := by
  intro pins s σ H v u Q I r h
  exact wpAny_assign_Name (store_ok I hN hi hx r (fun s' I' => ⟨_, H, I', h⟩) hf)
noncomputable def gNil : TGs := fun vs σ H Q => vs = [] ∧ Q σ H
noncomputable def gCons (t : TG) (u : TGs) : TGs := fun vs σ H Q => ∃ v r, vs = v :: r ∧ t v σ H fun σ' H' => u r σ' H' Q
theorem pgs_nil : PGs X [] gNil := by
  intro pins s σ H vs us Q I r h
  obtain ⟨e, h⟩ := h
  subst e
  cases r
  exact assignInOrder_nil ⟨σ, H, I, h⟩
theorem pgs_cons {e : Expr} {es : List Expr} {t : TG} {u : TGs} (h1 : PG X e t) (h2 : PGs X es u)
    (hs : (assignEach (e :: es) X.env).map (·.2) = assign e X.env :: (assignEach es X.env).map (·.2) := by rfl) : PGs X (e :: es) (gCons t u) := by
  intro pins s σ H vs us Q I r h
  obtain ⟨v, vr, e1, h⟩ := h
  subst e1
  cases r with
  | cons r rr =>
    rw [hs]
    refine assignInOrder_cons (thn (h1 pins s σ H _ _ _ I r h) fun _ s1 ⟨σ1, H1, I1, q1⟩ => ?_)
    exact h2 pins s1 σ1 H1 _ _ Q I1 rr q1
noncomputable def gTup (K : PySem.W.Frag) (n : Nat) (t : TGs) : TG := fun v σ H Q => ∃ a xs, v = .ref a ∧ SqT K H a xs ∧ xs.length = n ∧ t xs σ H Q
theorem pg_tup {es : List Expr} {k : Nat} {t : TGs} {n : Nat} (hc : X.calm = true) (h : PGs X es t)
    (hn : (assignEach es X.env).length = n := by rfl) (hst : (assignEach es X.env).findIdx? (·.1) = none := by rfl) : PG X (.Tuple es k pos) (gTup X.K n t) := by
  intro pins s σ H v u Q I r hw
  obtain ⟨a, xs, e1, hq, hl, hw⟩ := hw
  subst e1
  cases r
  obtain ⟨its, rv, ht, hz⟩ := I.tuple hq
  refine assign_Tuple_tuple (I.ok.hd hc) ht (by simp [hn, ← hl, rv.length]) hst fun h' hx => ?_
  have I1 : Inv X pins σ H { s with heap := h' } := I.kept (t' := s.toks) fun b o e => hx b o (Nat.ne_of_lt (Heap.lt_size e)) e
  exact h pins _ σ H xs _ Q I1 (by simpa using rv) hw
noncomputable def gSub (to ti : TE) (t : TSet) : TG := fun v σ H Q => to σ H fun o H1 => ti σ H1 fun i H2 => t o i v H2 fun H3 => Q σ H3
theorem pg_sub {o i : Expr} {to ti : TE} {t : TSet} (ho : PE X o to) (hi : PE X i ti) (hs : PSet X t)
    (ha : ∀ v, assign (.Subscript o i pos) X.env v = (do
      let ov ← holding [v] (eval o X.env)
      let iv ← holding [v, ov] (eval i X.env)
      standAt pos
      holding [v, ov, iv] (setItem ov iv v)
      release [v, ov, iv] []) := by intro _; rfl) : PG X (.Subscript o i pos) (gSub to ti t) := by
  intro pins s σ H v u Q I r h
  rw [ha]
  refine wpAny_bind (wpAny_holding (thn (ho pins s σ H _ I h) fun ov s1 ⟨x, H1, I1, r1, q1⟩ => ?_))
  refine wpAny_bind (wpAny_holding (thn (hi pins s1 σ H1 _ I1 q1) fun iv s2 ⟨y, H2, I2, r2, q2⟩ => ?_))
  refine wpAny_bind (wpAny_standAt (wpAny_bind (wpAny_holding (thn (hs pins s2 σ H2 x y v ov iv u _ I2 r1 r2 r q2) fun _ s3 ⟨H3, I3, q3⟩ => ?_))))
  exact wpAny_release ⟨σ, H3, I3, q3⟩
noncomputable def tAsg (te : TE) (g : TG) : TS := fun D σ H => te σ H fun x H1 => g x σ H1 D.nx
theorem ps_asg {tg e : Expr} {te : TE} {g : TG} (he : PE X e te) (hg : PG X tg g) (hs : swapsWithSole [tg] e pos.line X.env = pure false := by rfl) (hw : swappedStores [tg] e X.env = pure none := by rfl)
    (h1 : (assignEach [tg] X.env).map (·.2) = [assign tg X.env] := by rfl) : PS X (.Assign [tg] e pos) (tAsg te g) := by
  intro pins s σ H D I h
  refine wpAny_Assign_stores (thn (he pins s σ H _ I h) fun v s1 ⟨x, H1, I1, r1, q1⟩ => ?_) hs hw
  rw [h1]
  exact thn (hg pins s1 σ H1 x v _ I1 r1 q1) fun _ s2 q => q
theorem ps_set {i : Nat} {x : Str} {e : Expr} {te : TE} {pos' : Pos} (hN : X.N.Nodup) (hi : X.N[i]? = some x) (hx : Loc X.env.scope x) (he : PE X e te) (hs : swapsWith e (some (.Name x pos')) pos.line X.env = pure false := by rfl) (hf : X.fn x = true ∨ X.env.scope.names.lookup x = some .local := by first | exact .inl rfl | exact .inr rfl | assumption) :
    PS X (.Assign [.Name x pos'] e pos) (tAsg te (gName i)) := by
  intro pins s σ H D I h
  refine wpAny_Assign_Name (thn (he pins s σ H _ I h) fun v s1 ⟨y, H1, I1, r1, q1⟩ => ?_) hs
  exact store_ok I1 hN hi hx r1 (fun s2 I2 => ⟨_, H1, I2, q1⟩) hf
end

section
variable {X : Cx} {pos : Pos}
end

structure It where
  go : Nat → Hp → Prop
  yld : Nat → Hp → V → Hp → Prop
  stop : Nat → Hp → Prop
noncomputable def FpOk (X : Cx) (pins : List (Addr × Obj)) (H : Hp) (b : Addr) : Prop :=
  H b = none ∧ b ≠ X.env.locals ∧ b ∉ X.fs ∧ (b ∈ X.ex ∨ X.s₀.heap.objs.size ≤ b) ∧ (∀ x c, X.env.cells.lookup x = some c → c ≠ b) ∧ ∀ p ∈ X.pn ++ pins, p.1 ≠ b
theorem Inv.fpOk {X : Cx} {pins : List (Addr × Obj)} {σ : St} {H H' : Hp} {s : Shared} {b : Addr} (I : Inv X pins σ H s) (hb : s.heap.objs.size ≤ b) (hn : H' b = none) : FpOk X pins H' b := by
  refine ⟨hn, Nat.ne_of_gt (Nat.lt_of_lt_of_le I.lt hb), I.nofs hb, .inr (Nat.le_trans I.sz hb), fun x c e z => ?_, fun p hp z => ?_⟩
  · obtain ⟨v, q⟩ := I.cell x c e
    exact absurd (Nat.lt_of_lt_of_le q.lt (by rw [z]; exact hb)) (Nat.lt_irrefl _)
  · exact absurd (Nat.lt_of_lt_of_le (Heap.lt_size (I.pin p hp).1) (by rw [z]; exact hb)) (Nat.lt_irrefl _)
structure Turn (P : Program) (w : World) (K : PySem.W.Frag) (tg : Expr) (J : It) (fp : List Addr) (it : Addr) (tn : Nat → Heap → Prop) : Prop where
  mem : it ∈ fp
  obj : ∀ i h, tn i h → ∀ b ∈ fp, ∃ o, h.get? b = some o ∧ ∀ v, o.data ≠ .cell v
  keep : ∀ i h h', tn i h → (∀ b ∈ fp, ∀ o, h.get? b = some o → h'.get? b = some o) → tn i h'
  item : ∀ (X : Cx), X.prog = P → X.w = w → X.K = K → X.calm = true → ∀ (i : Nat) (pins : List (Addr × Obj)) (s : Shared) (σ : St) (H : Hp) (E : Value → Shared → Prop), Inv X pins σ H s → (∀ b ∈ fp, FpOk X pins H b) → tn i s.heap → J.go i H →
    wpAny (model P w) X.A (pyNext (.ref it)) (fun r s1 => ∃ u, r = some u ∧
      wpAny (model P w) X.A (letOwnedTupleGo tg (.ref it) u) (fun _ s2 => ∃ x H', Inv X pins σ H' s2 ∧ RelV x u ∧ J.yld i H x H' ∧ tn (i + 1) s2.heap ∧ ∀ b ∈ fp, H' b = none) E s1) E s
  done : ∀ (X : Cx), X.prog = P → X.w = w → X.K = K → X.calm = true → ∀ (i : Nat) (pins : List (Addr × Obj)) (s : Shared) (σ : St) (H : Hp) (E : Value → Shared → Prop), Inv X pins σ H s → (∀ b ∈ fp, FpOk X pins H b) → tn i s.heap → J.stop i H →
    wpAny (model P w) X.A (pyNext (.ref it)) (fun r s1 => r = none ∧ Inv X pins σ H s1) E s
  self : ∀ (A : Around) (i : Nat) (s : Shared) (Q : Value → Shared → Prop) (E : Value → Shared → Prop), tn i s.heap → Q (.ref it) s → wpAny (model P w) A (pyIter (.ref it)) Q E s
noncomputable abbrev TI := St → Hp → (It → Hp → Prop) → Prop
noncomputable def PIE (X : Cx) (pins : List (Addr × Obj)) (σ : St) (tg : Expr) (R : It → Hp → Prop) (itv : Value) (s2 : Shared) : Prop :=
  ∃ (it : Addr) (fp : List Addr) (tn : Nat → Heap → Prop) (J : It) (H' : Hp), itv = .ref it ∧ Inv X pins σ H' s2 ∧ Turn X.prog X.w X.K tg J fp it tn ∧ tn 0 s2.heap ∧ (∀ b ∈ fp, FpOk X pins H' b) ∧ R J H'
noncomputable def PI (X : Cx) (tg iter : Expr) (wi : TI) : Prop :=
  ∀ (pins : List (Addr × Obj)) (s : Shared) (σ : St) (H : Hp) (R : It → Hp → Prop), Inv X pins σ H s → wi σ H R →
    wpAny (model X.prog X.w) X.A (eval iter X.env) (fun v s1 => wpAny (model X.prog X.w) X.A (pyIter v) (PIE X pins σ tg R) X.xe s1) X.xe s

theorem go_of {M : Model} {A : Around} {E : Value → Shared → Prop} {s : Shared} {tg : Expr} {it : Addr} {u : Value} {o : Obj} {n : String} {vs : Array Value} {Q : Unit → Shared → Prop} (ho : s.heap.get? it = some o) (hc : o.cls = .type n) (hd : o.data = .fields vs)
    (hn : ["enumerate", "zip", "dict_itemiterator", "dict_reverseitemiterator", "odict_iterator", "itertools.zip_longest", "itertools.pairwise"].contains n = false) (hQ : Q () s) : wpAny M A (letOwnedTupleGo tg (.ref it) u) Q E s := by
  unfold letOwnedTupleGo
  cases tg <;> first
    | exact wpAny_pure hQ
    | (cases u <;> first
        | exact wpAny_pure hQ
        | (refine wpAny_bind (wpAny_load ho ?_)
           rw [hc, hd]
           show wpAny M A (if (["enumerate", "zip", "dict_itemiterator", "dict_reverseitemiterator", "odict_iterator", "itertools.zip_longest", "itertools.pairwise"].contains n && vs[0]? == some (rawInt _)) = true then _ else _) Q E s
           rw [if_neg (by intro h; rw [hn, Bool.false_and] at h; cases h)]
           exact wpAny_pure hQ))

noncomputable def Itl (K : PySem.W.Frag) (a : Addr) : It :=
  ⟨fun i H => ∃ xs x, SqL K H a xs ∧ xs[i]? = some x, fun i H x H' => H' = H ∧ ∀ xs, SqL K H a xs → xs[i]? = some x, fun i H => ∃ xs, SqL K H a xs ∧ xs.length ≤ i⟩
noncomputable def Itt (K : PySem.W.Frag) (a : Addr) : It :=
  ⟨fun i H => ∃ xs x, SqT K H a xs ∧ xs[i]? = some x, fun i H x H' => H' = H ∧ ∀ xs, SqT K H a xs → xs[i]? = some x, fun i H => ∃ xs, SqT K H a xs ∧ xs.length ≤ i⟩
noncomputable def Itr (lo : Int) (n : Nat) : It := ⟨fun i _ => i < n, fun i H x H' => H' = H ∧ x = .int (lo + i), fun i _ => n ≤ i⟩
theorem turn_list {P : Program} {w : World} {K : PySem.W.Frag} {tg : Expr} (a it : Addr) : Turn P w K tg (Itl K a) [it] it (fun i h => h.IsListIter it a i) where
  mem := by simp
  obj := fun i h st b hb => by
    have e : b = it := by simpa using hb
    subst e
    obtain ⟨o, e, c, d⟩ := st
    exact ⟨o, e, fun v z => by rw [d] at z; cases z⟩
  keep := fun i h h' st k => st.at fun o e => k it (by simp) o e
  item := by
    intro X hP hw hK hc i pins s σ H E I hf st hg
    subst hP hw hK
    obtain ⟨xs, x, hq, hx⟩ := hg
    obtain ⟨its, rv, p, hz⟩ := I.list hq
    obtain ⟨u, hu, ru⟩ := rv.get hx
    obtain ⟨f0, f1, f2, f3, f4, f5⟩ := hf it (by simp)
    refine wpAny_pyNext_list_item st p.isList (x := u) (by simpa using hu) fun h' st' sb => ?_
    have I1 : Inv X pins σ H { s with heap := h' } := I.turned (t' := s.toks) (fun b o hb e => (sb.2 b hb).trans e) f0 f1 f3 f4 f5
    obtain ⟨o, e, c, d⟩ := id st'
    exact ⟨u, rfl, go_of (s := { s with heap := h' }) e c d (by decide) ⟨x, H, I1, ru, ⟨rfl, fun ys hy => by rw [I.list_inj hy hq]; exact hx⟩, st', fun b hb => (hf b hb).1⟩⟩
  done := by
    intro X hP hw hK hc i pins s σ H E I hf st hg
    subst hP hw hK
    obtain ⟨xs, hq, hx⟩ := hg
    obtain ⟨its, rv, p, hz⟩ := I.list hq
    obtain ⟨f0, f1, f2, f3, f4, f5⟩ := hf it (by simp)
    have hl := rv.length
    exact wpAny_pyNext_list_end (I.ok.hd hc) st p.isList (by simp; omega) fun h' eb => ⟨rfl, I.turned (t' := s.toks) (fun b o hb e => eb b o hb e) f0 f1 f3 f4 f5⟩
  self := fun _ _ _ _ _ st h => wpAny_pyIter_listiter st h
theorem turn_tuple {P : Program} {w : World} {K : PySem.W.Frag} {tg : Expr} (a it : Addr) : Turn P w K tg (Itt K a) [it] it (fun i h => h.IsTupleIter it a i) where
  mem := by simp
  obj := fun i h st b hb => by
    have e : b = it := by simpa using hb
    subst e
    obtain ⟨o, e, c, d⟩ := st
    exact ⟨o, e, fun v z => by rw [d] at z; cases z⟩
  keep := fun i h h' st k => st.at fun o e => k it (by simp) o e
  item := by
    intro X hP hw hK hc i pins s σ H E I hf st hg
    subst hP hw hK
    obtain ⟨xs, x, hq, hx⟩ := hg
    obtain ⟨its, rv, p, hz⟩ := I.tuple hq
    obtain ⟨u, hu, ru⟩ := rv.get hx
    obtain ⟨f0, f1, f2, f3, f4, f5⟩ := hf it (by simp)
    refine wpAny_pyNext_tuple_item st (show s.heap.IsTuple a its.toArray from p) (x := u) (by simpa using hu) fun h' st' sb => ?_
    have I1 : Inv X pins σ H { s with heap := h' } := I.turned (t' := s.toks) (fun b o hb e => (sb.2 b hb).trans e) f0 f1 f3 f4 f5
    obtain ⟨o, e, c, d⟩ := id st'
    exact ⟨u, rfl, go_of (s := { s with heap := h' }) e c d (by decide) ⟨x, H, I1, ru, ⟨rfl, fun ys hy => by rw [I.tuple_inj hy hq]; exact hx⟩, st', fun b hb => (hf b hb).1⟩⟩
  done := by
    intro X hP hw hK hc i pins s σ H E I hf st hg
    subst hP hw hK
    obtain ⟨xs, hq, hx⟩ := hg
    obtain ⟨its, rv, p, hz⟩ := I.tuple hq
    obtain ⟨f0, f1, f2, f3, f4, f5⟩ := hf it (by simp)
    have hl := rv.length
    exact wpAny_pyNext_tuple_end (I.ok.hd hc) st (show s.heap.IsTuple a its.toArray from p) (by simp; omega) fun h' eb => ⟨rfl, I.turned (t' := s.toks) (fun b o hb e => eb b o hb e) f0 f1 f3 f4 f5⟩
  self := fun _ _ _ _ _ st h => wpAny_pyIter_tupleiter st h
theorem turn_range {P : Program} {w : World} {K : PySem.W.Frag} {tg : Expr} (it : Addr) (lo : Int) (n : Nat) : Turn P w K tg (Itr lo n) [it] it (fun i h => IsRangeIter h it (lo + (i : Nat) * 1) ((n : Int) - (i : Nat)) 1) where
  mem := by simp
  obj := fun i h st b hb => by
    have e : b = it := by simpa using hb
    subst e
    exact ⟨_, st, fun v z => by
      have z' : Data.fields _ = Data.cell v := z
      cases z'⟩
  keep := fun i h h' st k => k it (by simp) _ st
  item := by
    intro X hP hw hK hc i pins s σ H E I hf st hg
    subst hP hw hK
    obtain ⟨f0, f1, f2, f3, f4, f5⟩ := hf it (by simp)
    have W := Walks.range (prog := X.prog) (w := X.w) (I.ok.hd hc) it lo 1 n
    refine W.item i s _ _ hg st fun v h' tk hv st' kk => ?_
    obtain ⟨t, rfl⟩ := hv
    have I1 : Inv X pins σ H { s with heap := h', toks := tk } := I.turned (fun b o hb e => kk b o (by simpa using hb) e) f0 f1 f3 f4 f5
    refine ⟨_, rfl, go_of (s := { s with heap := h', toks := tk }) (n := "range_iterator") st' rfl rfl (by decide) ⟨.int (lo + i), H, I1, ⟨t, ?_⟩, ⟨rfl, rfl⟩, st', fun b hb => (hf b hb).1⟩⟩
    rw [Int.mul_one]
  done := by
    intro X hP hw hK hc i pins s σ H E I hf st hg
    subst hP hw hK
    obtain ⟨f0, f1, f2, f3, f4, f5⟩ := hf it (by simp)
    exact wpAny_pyNext_range_end (I.ok.hd hc) st (by have : n ≤ i := hg; omega) fun h' eb => ⟨rfl, I.turned (t' := s.toks) (fun b o hb e => eb b o hb e) f0 f1 f3 f4 f5⟩
  self := fun _ _ _ _ _ st h => wpAny_pyIter_rangeiter st h
end L2

namespace L2
open PySem PySem.Spec PyProof.Rows
section
variable {X : Cx} {tg : Expr}
noncomputable def iList (K : PySem.W.Frag) (tl : TE) : TI := fun σ H R => tl σ H fun x H1 => ∃ a, x = .ref a ∧ (∃ xs, SqL K H1 a xs) ∧ R (Itl K a) H1
noncomputable def iTup (K : PySem.W.Frag) (tl : TE) : TI := fun σ H R => tl σ H fun x H1 => ∃ a, x = .ref a ∧ (∃ xs, SqT K H1 a xs) ∧ R (Itt K a) H1
theorem pi_list {l : Expr} {tl : TE} (hl : PE X l tl) : PI X tg l (iList X.K tl) := by
  intro pins s σ H R I h
  refine thn (hl pins s σ H _ I h) fun v s1 ⟨x, H1, I1, r1, q1⟩ => ?_
  obtain ⟨a, e, ⟨xs, hq⟩, q⟩ := q1
  subst e
  cases r1
  obtain ⟨its, rv, p, hz⟩ := I1.list hq
  refine wpAny_pyIter_list p.isList ?_
  refine ⟨s1.heap.objs.size, [s1.heap.objs.size], _, _, H1, rfl, I1.kept (t' := s1.toks) fun b o e => Heap.get?_push_of_some _ e, turn_list a _, ⟨_, Heap.get?_push_size _ rfl, rfl, rfl⟩, fun b hb => ?_, q⟩
  have e : b = s1.heap.objs.size := by simpa using hb
  subst e
  exact I1.fpOk (Nat.le_refl _) (I1.hok.fresh (Nat.le_refl _))
theorem pi_tup {l : Expr} {tl : TE} (hl : PE X l tl) : PI X tg l (iTup X.K tl) := by
  intro pins s σ H R I h
  refine thn (hl pins s σ H _ I h) fun v s1 ⟨x, H1, I1, r1, q1⟩ => ?_
  obtain ⟨a, e, ⟨xs, hq⟩, q⟩ := q1
  subst e
  cases r1
  obtain ⟨its, rv, p, hz⟩ := I1.tuple hq
  refine wpAny_pyIter_tuple (show s1.heap.IsTuple a its.toArray from p) ?_
  refine ⟨s1.heap.objs.size, [s1.heap.objs.size], _, _, H1, rfl, I1.kept (t' := s1.toks) fun b o e => Heap.get?_push_of_some _ e, turn_tuple a _, ⟨_, Heap.get?_push_size _ rfl, rfl, rfl⟩, fun b hb => ?_, q⟩
  have e : b = s1.heap.objs.size := by simpa using hb
  subst e
  exact I1.fpOk (Nat.le_refl _) (I1.hok.fresh (Nat.le_refl _))
theorem range_it {pins : List (Addr × Obj)} {σ : St} {H : Hp} {s : Shared} {R : It → Hp → Prop} {E : Value → Shared → Prop} {lo hi : Int} {t u v : Tok} {tk : Nat} (I : Inv X pins σ H s) (h1 : -(2 ^ 62) ≤ lo) (h2 : lo < 2 ^ 62) (h3 : -(2 ^ 62) ≤ hi) (h4 : hi < 2 ^ 62)
    (q : R (Itr lo (hi - lo).toNat) H) : wpAny (model X.prog X.w) X.A (pyIter (.ref s.heap.objs.size)) (PIE X pins σ tg R) E { s with heap := s.heap.push { cls := .type "range", data := .fields #[.int lo t, .int hi u, .int 1 v] }, toks := tk } := by
  refine wpAny_pyIter_range (IsRange.new ..) (small_one h1 h2 h3 h4) ?_
  have I1 : Inv X pins σ H { s with heap := s.heap.push { cls := .type "range", data := .fields #[.int lo t, .int hi u, .int 1 v] }, toks := tk } := I.kept fun b o e => Heap.get?_push_of_some _ e
  refine ⟨(s.heap.push { cls := .type "range", data := .fields #[.int lo t, .int hi u, .int 1 v] }).objs.size, [(s.heap.push { cls := .type "range", data := .fields #[.int lo t, .int hi u, .int 1 v] }).objs.size], _, _, H, rfl,
    I1.kept (t' := tk) fun b o e => Heap.get?_push_of_some _ e, turn_range _ lo (hi - lo).toNat, ?_, fun b hb => ?_, q⟩
  · have e1 : lo + ((0 : Nat) : Int) * 1 = lo := by simp
    have e2 : (((hi - lo).toNat : Nat) : Int) - ((0 : Nat) : Int) = Builtin.Range.rangeSize lo hi 1 := by rw [rangeSize_one]; split <;> omega
    show IsRangeIter _ _ (lo + ((0 : Nat) : Int) * 1) ((((hi - lo).toNat : Nat) : Int) - ((0 : Nat) : Int)) 1
    rw [e1, e2]
    exact Heap.get?_push_size _ rfl
  · have e : b = (s.heap.push { cls := .type "range", data := .fields #[.int lo t, .int hi u, .int 1 v] }).objs.size := by simpa using hb
    subst e
    exact I1.fpOk (Nat.le_refl _) (I1.hok.fresh (Nat.le_refl _))
noncomputable def iRng1 (ta : TA) : TI := fun σ H R => ta σ H fun vs H1 => ∃ j : Int, vs = [.int j] ∧ -(2 ^ 62) ≤ j ∧ j < 2 ^ 62 ∧ R (Itr 0 j.toNat) H1
theorem pi_range1 {a : Expr} {ta : TA} {p pos : Pos} (hg : Gl X "range") (hm : X.mg "range" = none) (ha : PA X [a] ta) (hs : starEach [a] X.env = [(false, eval a X.env)] := by rfl) : PI X tg (.Call (.Name "range" p) [a] [] pos) (iRng1 ta) := by
  intro pins s σ H R I h
  refine Call_ (ld_blt I hg hm boot_range (PyProof.Rows.callWith_type1 (thn (ha pos pins s σ H _ I h) fun us s1 ⟨vs, H1, I1, r1, q1⟩ => ?_) hs rfl))
  obtain ⟨j, e, q1, q2, q⟩ := q1
  subst e
  cases r1 with
  | cons r rr =>
    cases rr
    obtain ⟨t, rfl⟩ := r
    exact call_range_1 (range_it I1 (by omega) (by omega) q1 q2 (by simpa using q))

noncomputable def tFor (wi : TI) (g : TG) (tb : TS) : TS := fun D σ H => wi σ H fun J H1 => ∃ W : Nat → Nat → St → Hp → Prop, (∃ m, W 0 m σ H1) ∧ ∀ i m σ H, W i m σ H →
  (J.stop i H ∧ D.nx σ H) ∨ (J.go i H ∧ ∃ N : St → Hp → Prop, (∀ σ' H', N σ' H' → ∃ m', m' < m ∧ W (i + 1) m' σ' H') ∧ ∀ x H', J.yld i H x H' → g x σ H' fun σ2 H2 => tb { D with nx := N, ct := N, bk := D.nx } σ2 H2)
noncomputable def pinsAt (fp : List Addr) (h : Heap) : List (Addr × Obj) := fp.filterMap fun b => (h.get? b).map fun o => (b, o)
theorem mem_pinsAt {fp : List Addr} {h : Heap} {b : Addr} {o : Obj} (hb : b ∈ fp) (e : h.get? b = some o) : (b, o) ∈ pinsAt fp h := List.mem_filterMap.mpr ⟨b, hb, by rw [e]; rfl⟩
theorem of_pinsAt {fp : List Addr} {h : Heap} {p : Addr × Obj} (hp : p ∈ pinsAt fp h) : p.1 ∈ fp ∧ h.get? p.1 = some p.2 := by
  obtain ⟨b, hb, e⟩ := List.mem_filterMap.mp hp
  cases q : h.get? b with
  | none => rw [q] at e; cases e
  | some o =>
    rw [q] at e
    have e' : (b, o) = p := Option.some.inj e
    subst e'
    exact ⟨hb, q⟩
theorem Inv.pinned {pins : List (Addr × Obj)} {σ : St} {H : Hp} {s : Shared} {fp : List Addr} (I : Inv X pins σ H s) (hf : ∀ b ∈ fp, FpOk X pins H b) (ho : ∀ b ∈ fp, ∃ o, s.heap.get? b = some o ∧ ∀ v, o.data ≠ .cell v) : Inv X (pins ++ pinsAt fp s.heap) σ H s :=
  I.pins_of fun p hp => (List.mem_append.mp hp).elim (fun z => I.pin p (List.mem_append_right _ z)) fun z => by
    obtain ⟨hb, e⟩ := of_pinsAt z
    obtain ⟨f0, f1, f2, _⟩ := hf p.1 hb
    obtain ⟨o, e', d⟩ := ho p.1 hb
    rw [e] at e'; cases e'
    exact ⟨e, f0, f1, f2, d⟩
theorem Inv.unpinned {pins pl : List (Addr × Obj)} {σ : St} {H : Hp} {s : Shared} (I : Inv X (pins ++ pl) σ H s) : Inv X pins σ H s := I.pins_of fun p hp => I.pin p (List.mem_append_right _ (List.mem_append_left _ hp))
theorem ps_for {iter : Expr} {body : List Stmt} {wi : TI} {g : TG} {tb : TS} {pos : Pos} (hp : PassesOwn (model X.prog X.w) X.A X.env X.xe) (hc : X.calm = true) (hi : PI X tg iter wi) (hg : PG X tg g) (hb : PSs X body tb)
    (hs : ∀ x, foldedSetIterable iter X.env x = pure x := by intro _; rfl) : PS X (.For tg iter body [] pos) (tFor wi g tb) := by
  intro pins s σ H D I h
  refine wpAny_For (thn (hi pins s σ H _ I h) fun v s1 h1 => thn h1 fun itv s2 h2 => ?_) hs
  obtain ⟨it, fp, tn, J, H2, e, I2, T, st2, f2, W, ⟨m0, w0⟩, turn⟩ := h2
  subst e
  -- what stays true of the iterator's objects through the loop
  have stat : ∀ {H' : Hp}, (∀ b ∈ fp, H' b = none) → ∀ b ∈ fp, FpOk X pins H' b := fun hn b hb => ⟨hn b hb, (f2 b hb).2⟩
  refine codeAny_forLoop_any (fun n s' => ∃ i σ' H', Inv X pins σ' H' s' ∧ tn i s'.heap ∧ (∀ b ∈ fp, H' b = none) ∧ W i n σ' H') ?_ m0 ⟨0, σ, H2, I2, st2, fun b hb => (f2 b hb).1, w0⟩
  rintro n s3 ⟨i, σ3, H3, I3, st3, fr3, w3⟩
  rcases turn i n σ3 H3 w3 with ⟨stop, qn⟩ | ⟨go, N, hN, step⟩
  · refine wpAny_passesOwn hp (thn (T.done X rfl rfl rfl hc i pins s3 σ3 H3 X.xe I3 (stat fr3) st3 stop) fun r s4 ⟨hr, I4⟩ => ?_)
    subst hr
    exact wpAny_execs_nil ⟨σ3, H3, I4, qn⟩
  · refine wpAny_passesOwn hp (thn (T.item X rfl rfl rfl hc i pins s3 σ3 H3 X.xe I3 (stat fr3) st3 go) fun r s4 ⟨u, hr, h4⟩ => ?_)
    subst hr
    refine wpAny_passesOwn hp (thn h4 fun _ s5 ⟨x, H5, I5, r5, y5, st5, fr5⟩ => ?_)
    have I5' := I5.pinned (stat fr5) (T.obj _ _ st5)
    refine wpAny_passesOwn hp (thn (hg _ s5 σ3 H5 x u _ I5' r5 (step x H5 y5)) fun _ s6 ⟨σ6, H6, I6, q6⟩ => ?_)
    refine wpAny_passesOwn hp (thn (hb _ s6 σ6 H6 _ I6 q6) fun f s7 q7 => ?_)
    have again : ∀ {σ7 : St} {H7 : Hp}, Inv X (pins ++ pinsAt fp s5.heap) σ7 H7 s7 → N σ7 H7 → ∃ m, m < n ∧ ∃ i σ' H', Inv X pins σ' H' s7 ∧ tn i s7.heap ∧ (∀ b ∈ fp, H' b = none) ∧ W i m σ' H' := fun {σ7 H7} I7 n7 => by
      obtain ⟨m', hm, w7⟩ := hN σ7 H7 n7
      refine ⟨m', hm, i + 1, σ7, H7, I7.unpinned, T.keep _ _ _ st5 fun b hb o e => (I7.pin (b, o) (List.mem_append_right _ (List.mem_append_right _ (mem_pinsAt hb e)))).1, fun b hb => ?_, w7⟩
      obtain ⟨o, e, d⟩ := T.obj _ _ st5 b hb
      exact (I7.pin (b, o) (List.mem_append_right _ (List.mem_append_right _ (mem_pinsAt hb e)))).2.1
    cases f with
    | next => obtain ⟨σ7, H7, I7, n7⟩ := q7; exact again I7 n7
    | cont => obtain ⟨σ7, H7, I7, n7⟩ := q7; exact again I7 n7
    | brk => obtain ⟨σ7, H7, I7, q7⟩ := q7; exact ⟨σ7, H7, I7.unpinned, q7⟩
    | ret v => obtain ⟨x7, σ7, H7, I7, r7, q7⟩ := q7; exact ⟨x7, σ7, H7, I7.unpinned, r7, q7⟩
end

theorem for_range {lo : Int} {n : Nat} {g : TG} {tb : TS} {D : Ends} {σ : St} {H : Hp} (Pv : Nat → St → Hp → Prop) (h0 : Pv 0 σ H)
    (hs : ∀ i σ H, i < n → Pv i σ H → g (.int (lo + i)) σ H fun σ2 H2 => tb { D with nx := Pv (i + 1), ct := Pv (i + 1), bk := D.nx } σ2 H2) (hd : ∀ σ H, Pv n σ H → D.nx σ H) :
    ∃ W : Nat → Nat → St → Hp → Prop, (∃ m, W 0 m σ H) ∧ ∀ i m σ H, W i m σ H →
      ((Itr lo n).stop i H ∧ D.nx σ H) ∨ ((Itr lo n).go i H ∧ ∃ N : St → Hp → Prop, (∀ σ' H', N σ' H' → ∃ m', m' < m ∧ W (i + 1) m' σ' H') ∧ ∀ x H', (Itr lo n).yld i H x H' → g x σ H' fun σ2 H2 => tb { D with nx := N, ct := N, bk := D.nx } σ2 H2) := by
  refine ⟨fun i m σ H => m = n - i ∧ i ≤ n ∧ Pv i σ H, ⟨n, by simp, Nat.zero_le _, h0⟩, ?_⟩
  rintro i m σ H ⟨rfl, hi, p⟩
  by_cases hlt : i < n
  · refine .inr ⟨hlt, Pv (i + 1), fun σ' H' p' => ⟨n - (i + 1), by omega, rfl, hlt, p'⟩, fun x H' y => ?_⟩
    obtain ⟨e, y⟩ := y
    subst e y
    exact hs i σ _ hlt p
  · have e : i = n := by omega
    subst e
    exact .inl ⟨Nat.le_refl _, hd σ H p⟩
end L2

namespace L2
open PySem PySem.Spec PyProof.Rows

noncomputable abbrev R2 := V → V → Hp → VK → Prop
noncomputable def OpR (X : Cx) (f : Value → Value → Sem Value) (r : R2) : Prop :=
  ∀ (pins : List (Addr × Obj)) (s : Shared) (σ : St) (H : Hp) (x y : V) (v u : Value) (Q : VK), Inv X pins σ H s → RelV x v → RelV y u → r x y H Q →
    wpAny (model X.prog X.w) X.A (f v u) (EP X pins σ Q) X.xe s
noncomputable def UnR (X : Cx) (f : Value → Sem Value) (r : V → Hp → VK → Prop) : Prop :=
  ∀ (pins : List (Addr × Obj)) (s : Shared) (σ : St) (H : Hp) (x : V) (v : Value) (Q : VK), Inv X pins σ H s → RelV x v → r x H Q →
    wpAny (model X.prog X.w) X.A (f v) (EP X pins σ Q) X.xe s
noncomputable def CallR (X : Cx) (f : Value) (r : List V → Hp → VK → Prop) : Prop :=
  ∀ (pins : List (Addr × Obj)) (s : Shared) (σ : St) (H : Hp) (xs : List V) (us : List Value) (Q : VK), Inv X pins σ H s → Vals xs us → r xs H Q →
    wpAny (model X.prog X.w) X.A (call f us) (EP X pins σ Q) X.xe s

noncomputable def tOp (r : R2) (ta tb : TE) : TE := fun σ H Q => ta σ H fun x H1 => tb σ H1 fun y H2 => r x y H2 Q
noncomputable def tUn (r : V → Hp → VK → Prop) (ta : TE) : TE := fun σ H Q => ta σ H fun x H1 => r x H1 Q
noncomputable def rI (C : Int → Int → Prop) (g : Int → Int → V) : R2 := fun x y H Q => ∃ i j, x = .int i ∧ y = .int j ∧ C i j ∧ Q (g i j) H
noncomputable def rI0 (g : Int → Int → V) : R2 := fun x y H Q => ∃ i j, x = .int i ∧ y = .int j ∧ Q (g i j) H
noncomputable def rU (g : Int → V) : V → Hp → VK → Prop := fun x H Q => ∃ i, x = .int i ∧ Q (g i) H

section
variable {X : Cx} {a b c : Expr} {ta tb tc : TE} {pos : Pos}

theorem binT (ha : PE X a ta) (hb : PE X b tb) {pins : List (Addr × Obj)} {s : Shared} {σ : St} {H : Hp} {R : V → V → Hp → Prop} (I : Inv X pins σ H s)
    (h : ta σ H fun x H1 => tb σ H1 fun y H2 => R x y H2) {Q : Value → Shared → Prop} {f : Value → Value → Sem Value}
    (hf : ∀ v u s2 x y H2, Inv X pins σ H2 s2 → RelV x v → RelV y u → R x y H2 → wpAny (model X.prog X.w) X.A (f v u) Q X.xe s2) :
    wpAny (model X.prog X.w) X.A (eval a X.env) (fun v s₁ => wpAny (model X.prog X.w) X.A (eval b X.env) (fun u s₂ => wpAny (model X.prog X.w) X.A (f v u) Q X.xe s₂) X.xe s₁) X.xe s := by
  refine thn (ha pins s σ H _ I h) fun v s1 ⟨x, H1, I1, r1, q1⟩ => ?_
  refine thn (hb pins s1 σ H1 _ I1 q1) fun u s2 ⟨y, H2, I2, r2, q2⟩ => ?_
  exact hf v u s2 x y H2 I2 r1 r2 q2

theorem pe_op {op : Operator} {r : R2} (ho : OpR X (binaryOp op) r) (ha : PE X a ta) (hb : PE X b tb) : PE X (.BinOp a op b pos) (tOp r ta tb) := by
  intro pins s σ H Q I h
  exact wpAny_BinOp (binT ha hb I h fun v u s2 x y H2 I2 rx ry q => ho pins s2 σ H2 x y v u Q I2 rx ry q)
theorem pe_un {op : UnaryOp} {r : V → Hp → VK → Prop} (ho : UnR X (unaryOp op) r) (ha : PE X a ta) : PE X (.UnaryOp op a pos) (tUn r ta) := by
  intro pins s σ H Q I h
  exact UnaryOp_ (thn (ha pins s σ H _ I h) fun v s1 ⟨x, H1, I1, r1, q1⟩ => ho pins s1 σ H1 x v Q I1 r1 q1)

theorem opI {f : Value → Value → Sem Value} {C : Int → Int → Prop} {g : Int → Int → Int}
    (rule : ∀ (i j : Int) (t u : Tok) (s : Shared) (Q : Value → Shared → Prop) (E : Value → Shared → Prop), C i j → Q (.int (g i j) s.toks) { s with toks := s.toks + 1 } → wpAny (model X.prog X.w) X.A (f (.int i t) (.int j u)) Q E s) :
    OpR X f (rI C fun i j => .int (g i j)) := by
  intro pins s σ H x y v u Q I rx ry h
  obtain ⟨i, j, rfl, rfl, hc, q⟩ := h
  obtain ⟨t, rfl⟩ := rx
  obtain ⟨t', rfl⟩ := ry
  exact rule i j t t' s _ _ hc ⟨.int (g i j), H, I.tok _, ⟨_, rfl⟩, q⟩
theorem opI0 {f : Value → Value → Sem Value} {g : Int → Int → Int}
    (rule : ∀ (i j : Int) (t u : Tok) (s : Shared) (Q : Value → Shared → Prop) (E : Value → Shared → Prop), Q (.int (g i j) s.toks) { s with toks := s.toks + 1 } → wpAny (model X.prog X.w) X.A (f (.int i t) (.int j u)) Q E s) :
    OpR X f (rI0 fun i j => .int (g i j)) := by
  intro pins s σ H x y v u Q I rx ry h
  obtain ⟨i, j, rfl, rfl, q⟩ := h
  obtain ⟨t, rfl⟩ := rx
  obtain ⟨t', rfl⟩ := ry
  exact rule i j t t' s _ _ ⟨.int (g i j), H, I.tok _, ⟨_, rfl⟩, q⟩
theorem opB0 {f : Value → Value → Sem Value} {g : Int → Int → Bool}
    (rule : ∀ (i j : Int) (t u : Tok) (s : Shared) (Q : Value → Shared → Prop) (E : Value → Shared → Prop), Q (.bool (g i j)) s → wpAny (model X.prog X.w) X.A (f (.int i t) (.int j u)) Q E s) :
    OpR X f (rI0 fun i j => .bl (g i j)) := by
  intro pins s σ H x y v u Q I rx ry h
  obtain ⟨i, j, rfl, rfl, q⟩ := h
  obtain ⟨t, rfl⟩ := rx
  obtain ⟨t', rfl⟩ := ry
  exact rule i j t t' s _ _ ⟨.bl (g i j), H, I, rfl, q⟩

noncomputable def CDiv (i j : Int) : Prop := 0 < j ∧ j < 1073741824
noncomputable def CMul (i j : Int) : Prop := (-(2 ^ 64) < i ∧ i < 2 ^ 64) ∨ (-(2 ^ 64) < j ∧ j < 2 ^ 64)
theorem CMul.ok {i j : Int} (h : CMul i j) : IntMulOk i j := by
  rcases h with ⟨h1, h2⟩ | ⟨h1, h2⟩
  · exact .of_left (intBits_le_64 h1 h2)
  · exact .of_right (intBits_le_64 h1 h2)

theorem op_add : OpR X (binaryOp .Add) (rI0 fun i j => .int (i + j)) := opI0 fun _ _ _ _ _ _ _ q => add_int q
theorem op_sub : OpR X (binaryOp .Sub) (rI0 fun i j => .int (i - j)) := opI0 fun _ _ _ _ _ _ _ q => sub_int q
theorem op_mul : OpR X (binaryOp .Mult) (rI CMul fun i j => .int (i * j)) := opI fun _ _ _ _ _ _ _ hc q => mul_int q hc.ok
theorem op_fdiv : OpR X (binaryOp .FloorDiv) (rI CDiv fun i j => .int (i / j)) := opI fun i j _ _ _ _ _ hc q => by
  have h1 : (0 : Int) < j := hc.1
  have h2 : j < 1073741824 := hc.2
  exact floordiv_int (by omega) (by rw [Int.fdiv_eq_ediv_of_nonneg i (by omega)]; exact q) (.inl (PyProof.noPylong_small (by omega)))
theorem op_mod : OpR X (binaryOp .Mod) (rI (fun _ j => 0 < j) fun i j => .int (i % j)) := opI fun i j _ _ _ _ _ hc q => by
  have h1 : (0 : Int) < j := hc
  exact mod_int' (by omega) (by rw [Int.fmod_eq_emod_of_nonneg i (by omega)]; exact q)

theorem unI {f : Value → Sem Value} {g : Int → Int}
    (rule : ∀ (i : Int) (t : Tok) (s : Shared) (Q : Value → Shared → Prop) (E : Value → Shared → Prop), Q (.int (g i) s.toks) { s with toks := s.toks + 1 } → wpAny (model X.prog X.w) X.A (f (.int i t)) Q E s) :
    UnR X f (rU fun i => .int (g i)) := by
  intro pins s σ H x v Q I rx h
  obtain ⟨i, rfl, q⟩ := h
  obtain ⟨t, rfl⟩ := rx
  exact rule i t s _ _ ⟨.int (g i), H, I.tok _, ⟨_, rfl⟩, q⟩
theorem un_neg : UnR X (unaryOp .USub) (rU fun i => .int (-i)) := unI fun _ _ _ _ _ q => neg_int q

end


section
variable {X : Cx} {a b c : Expr} {ta tb tc : TE} {pos : Pos}
theorem fin_bl {pins : List (Addr × Obj)} {σ : St} {H : Hp} {s : Shared} {Q : VK} {k k' : Bool} (I : Inv X pins σ H s) (q : Q (.bl k) H) (e : k = k') : EP X pins σ Q (.bool k') s := by
  subst e
  exact ⟨.bl k, H, I, rfl, q⟩

theorem op_lt : OpR X (compareOp .Lt) (rI0 fun i j => .bl (decide (i < j))) := opB0 fun _ _ _ _ _ _ _ q => lt_int q
theorem op_le : OpR X (compareOp .LtE) (rI0 fun i j => .bl (decide (i ≤ j))) := opB0 fun _ _ _ _ _ _ _ q => le_int q

theorem op_isN : OpR X (compareOp .Is) (fun x y H Q => y = .non ∧ Q (.bl (decide (x = .non))) H) := by
  intro pins s σ H x y v u Q I rx ry h
  obtain ⟨rfl, q⟩ := h
  cases ry
  refine is_none_gen (fin_bl I q ?_)
  cases x <;> first
    | (cases rx; rfl)
    | (obtain ⟨t, rfl⟩ := rx; rfl)
theorem op_notN : OpR X (compareOp .IsNot) (fun x y H Q => y = .non ∧ Q (.bl (!decide (x = .non))) H) := by
  intro pins s σ H x y v u Q I rx ry h
  obtain ⟨rfl, q⟩ := h
  cases ry
  refine isnot_none_gen (fin_bl I q ?_)
  cases x <;> first
    | (cases rx; rfl)
    | (obtain ⟨t, rfl⟩ := rx; rfl)

theorem OpR.or {f : Value → Value → Sem Value} {r r' : R2} (h : OpR X f r) (h' : OpR X f r') : OpR X f (fun x y H Q => r x y H Q ∨ r' x y H Q) := by
  intro pins s σ H x y v u Q I rx ry q
  rcases q with q | q
  · exact h pins s σ H x y v u Q I rx ry q
  · exact h' pins s σ H x y v u Q I rx ry q

theorem nomark (b : Expr) {op : CmpOp} (h : op ≠ .In := by decide) (h2 : op ≠ .NotIn := by decide) : behindInMarks op b = false := by
  have e1 : (op == CmpOp.In) = false := by cases op <;> first | rfl | exact absurd rfl h
  have e2 : (op == CmpOp.NotIn) = false := by cases op <;> first | rfl | exact absurd rfl h2
  cases b <;> simp [behindInMarks, e1, e2]
theorem pe_cmpR {op : CmpOp} {r : R2} (ho : OpR X (compareOp op) r) (ha : PE X a ta) (hb : PE X b tb) (hm : behindInMarks op b = false) : PE X (.Compare a [op] [b] pos) (tOp r ta tb) := by
  intro pins s σ H Q I h
  exact wpAny_Compare1 (binT ha hb I h fun v u s2 x y H2 I2 rx ry q => ho pins s2 σ H2 x y v u Q I2 rx ry q) hm
noncomputable def tTest (t : TE) : TT := fun σ H Q => t σ H fun x H' => ∃ k, x = .bl k ∧ Q k H'
theorem pt_cmpR {op : CmpOp} {r : R2} (ho : OpR X (compareOp op) r) (ha : PE X a ta) (hb : PE X b tb) (hm : behindInMarks op b = false) : PT X (.Compare a [op] [b] pos) (tTest (tOp r ta tb)) := by
  intro pins s σ H Q I h
  refine wpAny_isTrue_Compare1 (thn (ha pins s σ H _ I h) fun v s1 ⟨x, H1, I1, r1, q1⟩ => thn (hb pins s1 σ H1 _ I1 q1) fun u s2 ⟨y, H2, I2, r2, q2⟩ =>
    thn (ho pins s2 σ H2 x y v u _ I2 r1 r2 q2) fun c s3 ⟨z, H3, I3, r3, k, e, q3⟩ => ?_) hm
  subst e
  cases r3
  exact wpAny_truthy_bool ⟨H3, I3, q3⟩
noncomputable def tChain (r r' : R2) (ta tb tc : TE) : TE := fun σ H Q => ta σ H fun x H1 => tb σ H1 fun y H2 => r x y H2 fun z H3 => ∃ k, z = .bl k ∧
  (if k = true then tc σ H3 fun w' H4 => r' y w' H4 Q else Q (.bl false) H3)
theorem pe_chain {op op' : CmpOp} {r r' : R2} (ho : OpR X (compareOp op) r) (ho' : OpR X (compareOp op') r') (ha : PE X a ta) (hb : PE X b tb) (hc : PE X c tc)
    (hm : lastMarks [op, op'] [b, c] = false := by with_unfolding_all rfl) : PE X (.Compare a [op, op'] [b, c] pos) (tChain r r' ta tb tc) := by
  intro pins s σ H Q I h
  refine Compare_chain (thn (ha pins s σ H _ I h) fun v s1 ⟨x, H1, I1, r1, q1⟩ => chain_link (thn (hb pins s1 σ H1 _ I1 q1) fun u s2 ⟨y, H2, I2, r2, q2⟩ =>
    thn (ho pins s2 σ H2 x y v u _ I2 r1 r2 q2) fun d s3 ⟨z, H3, I3, r3, k, e, q3⟩ => ?_)) hm
  subst e
  cases r3
  refine wpAny_truthy_bool ?_
  cases k with
  | false => exact ite_ff ⟨.bl false, H3, I3, rfl, q3⟩
  | true => exact ite_tt (chain_last (thn (hc pins s3 σ H3 _ I3 q3) fun w' s4 ⟨z', H4, I4, r4, q4⟩ => ho' pins s4 σ H4 y z' u w' Q I4 r2 r4 q4))
theorem pt_chain {op op' : CmpOp} {r r' : R2} (ho : OpR X (compareOp op) r) (ho' : OpR X (compareOp op') r') (ha : PE X a ta) (hb : PE X b tb) (hc : PE X c tc)
    (hm : lastMarks [op, op'] [b, c] = false := by with_unfolding_all rfl) : PT X (.Compare a [op, op'] [b, c] pos) (tTest (tChain r r' ta tb tc)) := by
  intro pins s σ H Q I h
  refine isTrue_chain (thn (ha pins s σ H _ I h) fun v s1 ⟨x, H1, I1, r1, q1⟩ => test_link (thn (hb pins s1 σ H1 _ I1 q1) fun u s2 ⟨y, H2, I2, r2, q2⟩ =>
    thn (ho pins s2 σ H2 x y v u _ I2 r1 r2 q2) fun d s3 ⟨z, H3, I3, r3, k, e, q3⟩ => ?_)) hm
  subst e
  cases r3
  refine wpAny_truthy_bool ?_
  cases k with
  | false =>
    obtain ⟨k', e', q'⟩ := q3
    cases e'
    exact ite_ff ⟨H3, I3, q'⟩
  | true =>
    refine ite_tt (test_last (thn (hc pins s3 σ H3 _ I3 q3) fun w' s4 ⟨z', H4, I4, r4, q4⟩ => thn (ho' pins s4 σ H4 y z' u w' _ I4 r2 r4 q4) fun d' s5 ⟨z2, H5, I5, r5, k2, e2, q5⟩ => ?_))
    subst e2
    cases r5
    exact wpAny_truthy_bool ⟨H5, I5, q5⟩

theorem line63 : (sizeLine : Nat) < 2 ^ 63 := by rw [sizeLine_eq]; decide


theorem vals1 {x : V} {us : List Value} (r : Vals [x] us) : ∃ u, us = [u] ∧ RelV x u := by
  cases r with
  | cons r1 r2 => cases r2; exact ⟨_, rfl, r1⟩
theorem vals2 {x y : V} {us : List Value} (r : Vals [x, y] us) : ∃ u w', us = [u, w'] ∧ RelV x u ∧ RelV y w' := by
  cases r with
  | cons r1 r2 =>
    cases r2 with
    | cons r3 r4 => cases r4; exact ⟨_, _, rfl, r1, r3⟩
theorem call_max2 (hc : X.calm = true) : CallR X (.builtin "max") (fun xs H Q => ∃ i j, xs = [.int i, .int j] ∧ Q (.int (if j > i then j else i)) H) := by
  intro pins s σ H xs us Q I r h
  obtain ⟨i, j, rfl, q⟩ := h
  obtain ⟨u, w', rfl, ⟨t, rfl⟩, ⟨t', rfl⟩⟩ := vals2 r
  refine max_two_ints (I.ok.hd hc) fun h' tk k => ⟨_, H, I.kept k, ?_, q⟩
  by_cases hj : j > i
  · rw [if_pos hj, if_pos hj]; exact ⟨_, rfl⟩
  · rw [if_neg hj, if_neg hj]; exact ⟨_, rfl⟩
theorem call_min2 (hc : X.calm = true) : CallR X (.builtin "min") (fun xs H Q => ∃ i j, xs = [.int i, .int j] ∧ Q (.int (if j < i then j else i)) H) := by
  intro pins s σ H xs us Q I r h
  obtain ⟨i, j, rfl, q⟩ := h
  obtain ⟨u, w', rfl, ⟨t, rfl⟩, ⟨t', rfl⟩⟩ := vals2 r
  refine min_two_ints (I.ok.hd hc) fun h' tk k => ⟨_, H, I.kept k, ?_, q⟩
  by_cases hj : j < i
  · rw [if_pos hj, if_pos hj]; exact ⟨_, rfl⟩
  · rw [if_neg hj, if_neg hj]; exact ⟨_, rfl⟩
theorem call_int1 : CallR X (.type "int") (fun xs H Q => (∃ i, xs = [.int i] ∧ Q (.int i) H) ∨ ∃ k, xs = [.bl k] ∧ Q (.int (if k then 1 else 0)) H) := by
  intro pins s σ H xs us Q I r h
  rcases h with ⟨i, rfl, q⟩ | ⟨k, rfl, q⟩
  · obtain ⟨u, rfl, t, rfl⟩ := vals1 r
    exact call_int_int ⟨.int i, H, I, ⟨_, rfl⟩, q⟩
  · obtain ⟨u, rfl, r1⟩ := vals1 r
    cases r1
    exact call_int_bool ⟨.int (if k then 1 else 0), H, I.tok _, ⟨_, rfl⟩, q⟩
end
end L2

namespace L2
open PySem PySem.Spec PyProof.Rows

structure ObjM (h : Heap) (x dx C : Addr) (mA : Str → Option Value) : Prop where
  obj : h.get? x = some (PySem.W.instObj C dx)
  ns : h.Ns1 dx mA
  ne : dx ≠ x

section
variable {prog : Program} {w : World} {A : Around} {E : Value → Shared → Prop} {s : Shared} {K : PySem.W.Frag} {x dx C f : Addr} {mA : Str → Option Value} {name : Str} {v : Value}

end


section
variable {P : Program} {w : World} {H H' : Hp} {h h' : Heap} {a C dx : Addr} {fs fs' : List (Str × V)}
end

structure Cls (K : PySem.W.Frag) (C : Addr) : Prop where
  pg : PySem.W.plainGet K C Str.empty = true
  hd : PySem.W.hasDictIn K C = true
  po : PySem.W.plainOver K C = true
  sa : PySem.W.findIn K (.ref C) "__setattr__" = some (some (.builtin "object.__setattr__"))
theorem Cls.get {K : PySem.W.Frag} {C : Addr} (c : Cls K C) (f : Str) : PySem.W.plainGet K C f = true := c.pg
structure Con (K : PySem.W.Frag) (C : Addr) (f : Str) (v : V) (u : Value) : Prop where
  at_ : PySem.W.findIn K (.ref C) f = some (some u)
  rel : RelV v u
  get : PySem.W.specialIn K u "__get__" = some none
  cp : PySem.W.copiedNames.contains f = false
structure Meth (K : PySem.W.Frag) (C : Addr) (m : Str) (f : Addr) : Prop where
  at_ : PySem.W.findIn K (.ref C) m = some (some (.ref f))
  fn : PySem.W.isFn K (.ref f) = true
  kp : PySem.W.keepIn K (.ref f) = true

section
variable {X : Cx} {pins : List (Addr × Obj)} {σ : St} {H : Hp} {s : Shared} {a C dx : Addr} {fs : List (Str × V)} {f : Str} {v : V} {A : Around} {E : Value → Shared → Prop}

theorem Inv.made (I : Inv X pins σ H s) : Inv X pins σ (upd (upd H s.heap.objs.size (.own (s.heap.objs.size + 1))) (s.heap.objs.size + 1) (.ins C s.heap.objs.size []))
    { s with heap := (s.heap.push PySem.W.emptyDict).push (PySem.W.instObj C s.heap.objs.size) } := by
  have e1 : (s.heap.push PySem.W.emptyDict).get? s.heap.objs.size = some PySem.W.emptyDict := Heap.get?_push_size s.heap rfl
  have e2 : ((s.heap.push PySem.W.emptyDict).push (PySem.W.instObj C s.heap.objs.size)).get? (s.heap.objs.size + 1) = some (PySem.W.instObj C s.heap.objs.size) := by
    have := Heap.get?_push_size (s.heap.push PySem.W.emptyDict) (o := PySem.W.instObj C s.heap.objs.size) rfl
    rwa [Heap.size_push] at this
  have e3 : (s.heap.push PySem.W.emptyDict).Ns s.heap.objs.size (fun _ => none) := ⟨PySem.W.emptyDict, #[], _, e1, rfl, (fun e he => absurd he (by simp)), fun _ => rfl⟩
  have I1 := I.laid (a := s.heap.objs.size) (o := .own (s.heap.objs.size + 1)) (h' := s.heap.push PySem.W.emptyDict) (t' := s.toks) (fun b u q => Heap.get?_push_of_some _ q) (Nat.le_refl _) ⟨_, e1⟩
  refine I1.laid (a := s.heap.objs.size + 1) (o := .ins C s.heap.objs.size []) (t' := s.toks) (fun b u q => Heap.get?_push_of_some _ q) (Nat.le_of_eq (Heap.size_push _ _)) ?_
  have ne : s.heap.objs.size ≠ s.heap.objs.size + 1 := Nat.ne_of_lt (Nat.lt_succ_self _)
  refine ⟨by rw [upd_ne ne, upd_same], Nat.zero_le _, ne, e2, fun _ => none, (Heap.Ns1.of_empty e3).at fun o q => Heap.get?_push_of_some _ q, fun _ => True.intro, fun y hy => absurd rfl hy⟩

end


section
variable {X : Cx} {o e value : Expr} {f : Str} {pos pos' tpos : Pos} {ta tv : TE}

end

section
variable {X : Cx} {pins : List (Addr × Obj)} {σ : St} {H : Hp} {s : Shared} {A : Around} {E : Value → Shared → Prop} {Q : Value → Shared → Prop} {c : Value} {b : Bool}
inductive TyOf (K : PySem.W.Frag) (H : Hp) : V → Value → Prop where
  | non : TyOf K H .non (.type "NoneType")
  | bl (x : Bool) : TyOf K H (.bl x) (.type "bool")
  | int (i : Int) : TyOf K H (.int i) (.type "int")
  | str (x : Str) : TyOf K H (.str x) (.type "str")
  | flt (x : UInt64) : TyOf K H (.flt x) (.type "float")
  | lst {a : Addr} {xs : List V} (e : H a = some (.lst xs)) : TyOf K H (.ref a) (.type "list")
  | frz {a : Addr} {o : Obj} {xs : List V} (e : H a = some (.frz o (.lst xs))) : TyOf K H (.ref a) (.type "list")
  | tup {a : Addr} {xs : List V} (e : H a = some (.tup xs)) : TyOf K H (.ref a) (.type "tuple")
  | dK {a : Addr} {kvs : List (Key × V)} (e : H a = some (.dK kvs)) : TyOf K H (.ref a) (.type "dict")
  | dT {a : Addr} {kvs : List (List Key × V)} (e : H a = some (.dT kvs)) : TyOf K H (.ref a) (.type "dict")
  | ins {a C dx : Addr} {fs : List (Str × V)} (e : H a = some (.ins C dx fs)) (cl : Cls K C) (ha : PySem.W.findIn K (.ref C) "__class__" = some (some (.builtin "object.__class__")))
      (hn : PySem.W.specialIn K (.builtin "object.__class__") "__get__" = some (some (.builtin "getset_descriptor.__get__"))) (htk : PySem.W.takesIn K (.builtin "object.__class__") = some true)
      (hm : PySem.W.mroIn K C (.type "object") = some true) : TyOf K H (.ref a) (.ref C)
end
end L2

namespace L2
open PySem PySem.Spec PyProof.Rows

structure Room (k : Nat) (A : Around) : Prop where
  hd : A.handled = none
  dp : A.depth + 3 * k + 5 < recursionLimit
  un : A.units + 16 * k + 200 < cLine
theorem Room.mono {j k : Nat} {A : Around} (r : Room k A) (h : j ≤ k) : Room j A := ⟨r.hd, by have := r.dp; omega, by have := r.un; omega⟩
theorem Room.deeper {k : Nat} {A : Around} (r : Room (k + 1) A) (env : Env) : Room k (A.deeper env) :=
  ⟨r.hd, by have := r.dp; show A.depth + 1 + 3 * k + 5 < _; omega, by have := r.un; show A.units + 3 + 16 * k + 200 < _; omega⟩
theorem Room.in1 {k : Nat} {A : Around} (r : Room (k + 1) A) : Room k A.in1 :=
  ⟨r.hd, by have := r.dp; show A.depth + 3 * k + 5 < _; omega, by have := r.un; show A.units + 1 + 16 * k + 200 < _; omega⟩
theorem Room.depth {k : Nat} {A : Around} (r : Room k A) : A.depth < recursionLimit := by have := r.dp; omega
theorem Room.units {k : Nat} {A : Around} (r : Room k A) : A.units + 64 < cLine := by have := r.un; omega

noncomputable def tNil : TA := fun _ H Q => Q [] H
noncomputable def tCons (ta : TE) (tr : TA) : TA := fun σ H Q => ta σ H fun x H1 => tr σ H1 fun xs H2 => Q (x :: xs) H2
section
variable {X : Cx} {e : Expr} {es : List Expr} {te : TE} {t : TA} {pos : Pos}
theorem pal1 {α : Type} : ∀ (us : List α), us.length = 1 → ∃ a, us = [a]
  | [a], _ => ⟨a, rfl⟩
theorem pal2 {α : Type} (us : List α) (h : us.length = 2) : ∃ a b, us = [a, b] := by
  cases us with
  | nil => cases h
  | cons a r => obtain ⟨b, rfl⟩ := pal1 r (Nat.succ.inj h); exact ⟨a, b, rfl⟩
theorem pal3 {α : Type} (us : List α) (h : us.length = 3) : ∃ a b c, us = [a, b, c] := by
  cases us with
  | nil => cases h
  | cons a r => obtain ⟨b, c, rfl⟩ := pal2 r (Nat.succ.inj h); exact ⟨a, b, c, rfl⟩
theorem pal4 {α : Type} (us : List α) (h : us.length = 4) : ∃ a b c d, us = [a, b, c, d] := by
  cases us with
  | nil => cases h
  | cons a r => obtain ⟨b, c, d, rfl⟩ := pal3 r (Nat.succ.inj h); exact ⟨a, b, c, d, rfl⟩
theorem pa_nil : PA X [] tNil := fun _ _ _ _ H Q I h => Calls.spliced_nil ⟨[], H, I, .nil, h⟩
theorem pa_cons (ha : PE X e te) (hr : PA X es t) (hs : starEach (e :: es) X.env = (false, eval e X.env) :: starEach es X.env := by rfl) : PA X (e :: es) (tCons te t) := by
  intro pos pins s σ H Q I h
  rw [hs]
  show wpAny _ _ (spliced ((false, eval e X.env) :: backTo pos (starEach es X.env))) _ _ s
  refine Calls.spliced_cons (thn (ha pins s σ H _ I h) fun u s1 ⟨x, H1, I1, r1, q1⟩ => ?_)
  exact thn (hr pos pins s1 σ H1 _ I1 q1) fun us s2 ⟨xs, H2, I2, r2, q2⟩ => ⟨x :: xs, H2, I2, .cons r1 r2, q2⟩

noncomputable def tTup (t : TA) : TE := fun σ H Q => t σ H fun xs H1 => xs.length ≤ sizeLine ∧ ∀ p, H1 p = none → Q (.ref p) (upd H1 p (.tup xs))
noncomputable def tLst (t : TA) : TE := fun σ H Q => t σ H fun xs H1 => xs.length ≤ sizeLine ∧ ∀ p, H1 p = none → Q (.ref p) (upd H1 p (.lst xs))
theorem pe_tup {x1} (h : PA X es t) : PE X (.Tuple es x1 pos) (tTup t) := by
  intro pins s σ H Q I hq
  refine wpAny_Tuple_spliced (thn (h pos pins s σ H _ I hq) fun us s1 ⟨xs, H1, I1, r, z, q⟩ => ⟨by rw [← r.length]; exact z, ?_⟩)
  have hf : H1 s1.heap.objs.size = none := I1.hok.fresh (Nat.le_refl _)
  refine ⟨.ref s1.heap.objs.size, upd H1 s1.heap.objs.size (.tup xs), I1.laid (t' := s1.toks) (fun b u e => Heap.get?_push_of_some _ e) (Nat.le_refl _) ?_, rfl, q _ hf⟩
  exact ⟨z, us, r, ⟨_, Heap.get?_push_size _ rfl, rfl, _, rfl⟩⟩
theorem pe_lst (h : PA X es t) : PE X (.List es pos) (tLst t) := by
  intro pins s σ H Q I hq
  refine wpAny_List_spliced (thn (h pos pins s σ H _ I hq) fun us s1 ⟨xs, H1, I1, r, z, q⟩ => ⟨by rw [← r.length]; exact z, ?_⟩)
  have hf : H1 s1.heap.objs.size = none := I1.hok.fresh (Nat.le_refl _)
  refine ⟨.ref s1.heap.objs.size, upd H1 s1.heap.objs.size (.lst xs), I1.laid (t' := s1.toks) (fun b u e => Heap.get?_push_of_some _ e) (Nat.le_refl _) ?_, rfl, q _ hf⟩
  exact ⟨z, us, 0, r, Heap.get?_push_size _ rfl⟩
end

noncomputable abbrev Sp := List V → Hp → VK → XK → Prop
noncomputable abbrev CXT := List Env → Hp → Shared → XK → Value → Shared → Prop

structure Env0 (P : Program) (w : World) (K : PySem.W.Frag) (mg : Str → Option Value) (base : Heap) (A : Around) (outer : List Env) (s : Shared) (H : Hp) : Prop where
  frames : A.frames = some outer
  mod : Mod K mg base
  bs : ∀ b o, base.get? b = some o → s.heap.get? b = some o ∧ H b = none
  bsz : base.objs.size ≤ s.heap.objs.size
  funs : s.heap.FunFrames base outer
  frf : ∀ b ∈ frs outer, H b = none
  hok : HOk P w H s.heap
  bare : AllBare s.gens
noncomputable def CE (outer : List Env) (P : Program) (w : World) (H : Hp) (s : Shared) (Q : VK) (u : Value) (s' : Shared) : Prop :=
  ∃ v H', s'.os = s.os ∧ AllBare s'.gens ∧ Un (frs outer) [] H H' s.heap s'.heap ∧ HOk P w H' s'.heap ∧ RelV v u ∧ Q v H'
noncomputable def CR (CX : CXT) (outer : List Env) (P : Program) (w : World) (H : Hp) (s : Shared) (Q : VK) (E : XK) (r : Result) (s' : Shared) : Prop :=
  match r with
  | .ok (.ret u) => CE outer P w H s Q u s'
  | .ok _ => False
  | .error e => CX outer H s E e s'
structure FnOk (P : Program) (w : World) (K : PySem.W.Frag) (mg : Str → Option Value) (base : Heap) (CX : CXT) (k : Nat) (f : Addr) (fd : FuncData) (ps : List Str) (sp : Sp) : Prop where
  len : ∀ vs H Q E, sp vs H Q E → vs.length = ps.length
  run : ∀ (A : Around) (outer : List Env) (s : Shared) (H : Hp) (args : Args) (us : List Value) (vs : List V) (Q : VK) (E : XK), Room k A → Env0 P w K mg base A outer s H → BindsTo s fd args (ps.zip us) → Vals vs us → sp vs H Q E →
    codeAny (model P w) A (.call (.ref f) args) (CR CX outer P w H s Q E) s
theorem FnOk.mono {P : Program} {w : World} {K : PySem.W.Frag} {mg : Str → Option Value} {base : Heap} {CX : CXT} {j k : Nat} {f : Addr} {fd : FuncData} {ps : List Str} {sp : Sp} (F : FnOk P w K mg base CX j f fd ps sp) (h : j ≤ k) :
    FnOk P w K mg base CX k f fd ps sp := ⟨F.len, fun A outer s H args us vs Q E hr => F.run A outer s H args us vs Q E (hr.mono h)⟩
theorem FnOk.imp {P : Program} {w : World} {K : PySem.W.Frag} {mg : Str → Option Value} {base : Heap} {CX : CXT} {k : Nat} {f : Addr} {fd : FuncData} {ps : List Str} {sp sp' : Sp} (F : FnOk P w K mg base CX k f fd ps sp)
    (h : ∀ vs H Q E, sp' vs H Q E → sp vs H Q E) : FnOk P w K mg base CX k f fd ps sp' :=
  ⟨fun vs H Q E q => F.len vs H Q E (h _ _ _ _ q), fun A outer s H args us vs Q E hr he hb hv hs => F.run A outer s H args us vs Q E hr he hb hv (h _ _ _ _ hs)⟩

theorem Env0.in1 {P : Program} {w : World} {K : PySem.W.Frag} {mg : Str → Option Value} {base : Heap} {A : Around} {outer : List Env} {s : Shared} {H : Hp} (e : Env0 P w K mg base A outer s H) :
    Env0 P w K mg base A.in1 outer s H := ⟨e.frames, e.mod, e.bs, e.bsz, e.funs, e.frf, e.hok, e.bare⟩

section
variable {X : Cx} {pins : List (Addr × Obj)} {σ : St} {H : Hp} {s s' : Shared}
theorem Inv.env0 (I : Inv X pins σ H s) : Env0 X.prog X.w X.K X.mg X.base X.A X.stack s H :=
  ⟨I.ok.frames, I.ok.mod, I.bs, Nat.le_trans I.ok.bsz I.sz, I.stack, I.stkFree, I.hok, I.bare⟩
theorem Inv.after {Q : VK} {u : Value} (I : Inv X pins σ H s) (h : CE X.stack X.prog X.w H s Q u s') : EP X pins σ Q u s' := by
  obtain ⟨v, H', os, bare, un, hok, r, q⟩ := h
  obtain ⟨hh, g, d, t, os'⟩ := s'
  obtain rfl : os' = s.os := os
  exact ⟨v, H', I.call (h' := hh) (g' := g) (d' := d) (t' := t) (ch := []) un hok bare (fun b z => absurd z (by simp)), r, q⟩
end

noncomputable def tCall (sp : Sp) (dvs : List V) (E : XK) (t : TA) : TE := fun σ H Q => t σ H fun vs H1 => sp (vs ++ dvs) H1 Q E

noncomputable def Binds (K : PySem.W.Frag) (fd : FuncData) (ps : List Str) (ds : List Value) : Prop :=
  ∀ (s : Shared) (us : List Value), K.In s.heap → (us ++ ds).length = ps.length → BindsTo s fd ⟨us, []⟩ (ps.zip (us ++ ds))
theorem Binds.all {K : PySem.W.Frag} {fd : FuncData} {ps : List Str} (h : ∀ us : List Value, us.length = ps.length → bindArgs fd ⟨us, []⟩ = pure (ps.zip us)) : Binds K fd ps [] := fun s us _ hl => by
  rw [List.append_nil] at hl ⊢
  exact .of_eq (h us hl)

noncomputable def Passes (CX : CXT) (X : Cx) (E : XK) : Prop := ∀ (pins : List (Addr × Obj)) (σ : St) (H : Hp) (s : Shared) (e : Value) (s' : Shared), Inv X pins σ H s → CX X.stack H s E e s' → X.xe e s'

section
variable {X : Cx} {CX : CXT} {k : Nat} {f C : Addr} {fd : FuncData} {ps : List Str} {sp : Sp} {dvs : List V} {ds : List Value} {E : XK} {x m : Str} {p pos apos : Pos} {e o : Expr} {es : List Expr} {ta : TE} {t : TA}

theorem run_fn {pins : List (Addr × Obj)} {σ : St} {H : Hp} {s : Shared} {Q : VK} {us : List Value} {vs : List V} (F : FnOk X.prog X.w X.K X.mg X.base CX k f fd ps sp) (hr : Room k X.A) (hb : Binds X.K fd ps ds) (hd : Vals dvs ds) (hx : Passes CX X E)
    (I : Inv X pins σ H s) (r : Vals vs us) (h : sp (vs ++ dvs) H Q E) : wpAny (model X.prog X.w) X.A (call (.ref f) us) (EP X pins σ Q) X.xe s := by
  have r2 : Vals (vs ++ dvs) (us ++ ds) := r.append hd
  have hl : (us ++ ds).length = ps.length := by rw [← r2.length]; exact F.len _ _ _ _ h
  refine wpAny_call (codeAny_mono (F.run X.A X.stack s H ⟨us, []⟩ (us ++ ds) (vs ++ dvs) Q E hr I.env0 (hb s us I.kIn hl) r2 h) fun r s' hq => ?_)
  cases r with
  | error e => exact hx pins σ H s e s' I hq
  | ok fl =>
    cases fl with
    | ret u => exact I.after hq
    | next => exact False.elim hq
    | brk => exact False.elim hq
    | cont => exact False.elim hq

theorem pe_call (F : FnOk X.prog X.w X.K X.mg X.base CX k f fd ps sp) (hr : Room k X.A) (hg : Gl X x) (hm : X.mg x = some (.ref f)) (hk : PySem.W.keepIn X.K (.ref f) = true) (hb : Binds X.K fd ps ds) (hd : Vals dvs ds) (hx : Passes CX X E)
    (ha : PA X (e :: es) t) (hdb : (x == ("__debug__" : Str)) = false := by decide) (he : starEach (e :: es) X.env = (false, eval e X.env) :: starEach es X.env := by rfl) (hpl : (backTo pos (starEach es X.env)).any (·.1) = false := by rfl) :
    PE X (.Call (.Name x p) (e :: es) [] pos) (tCall sp dvs E t) := by
  intro pins s σ H Q I h
  refine wpAny_Call_Name_kw (ld_glob I hg hm ?_ hdb)
  refine PySem.W.callWith_K (h₀ := X.base) I.ok.mod.kin hk (thn (ha pos pins s σ H _ I h) fun us s1 ⟨vs, H1, I1, r, q⟩ => ⟨I1.kIn, ?_⟩) he hpl
  exact run_fn F hr hb hd hx I1 r q

structure Mk (K : PySem.W.Frag) (C f : Addr) : Prop where
  makes : PySem.W.makesIn K C = true
  init : PySem.W.findIn K (.ref C) "__init__" = some (some (.ref f))
  fn : PySem.W.isFn K (.ref f) = true
  kp : PySem.W.keepIn K (.ref C) = true

end

section
variable {X : Cx} {CX : CXT} {k : Nat} {f C : Addr} {fd : FuncData} {ps ks : List Str} {sp : Sp} {E : XK} {x m : Str} {p pos apos kpos : Pos} {e o : Expr} {es : List Expr} {kws : List Keyword} {te ta : TE} {t tk : TA} {nm : Option Str}

structure KBinds (K : PySem.W.Frag) (fd : FuncData) (ps ks : List Str) (g : List Value → List Value → List Value) (gV : List V → List V → List V) : Prop where
  to : ∀ (s : Shared) (us ws : List Value), K.In s.heap → (g us ws).length = ps.length → BindsTo s fd ⟨us, ks.zip ws⟩ (ps.zip (g us ws))
  rel : ∀ {vs : List V} {us : List Value} {zs : List V} {ws : List Value}, Vals vs us → Vals zs ws → Vals (gV vs zs) (g us ws)
variable {g : List Value → List Value → List Value} {gV : List V → List V → List V}
end

structure FnScope (N P : List Str) (sc : Scope) : Prop where
  kind : sc.kind = .function
  co : sc.isCoroutine = false
  gen : sc.isGenerator = false
  nd : N.Nodup
  pre : N.take P.length = P
  par : ∀ x ∈ P, sc.names.lookup x = some .local ∨ sc.names.lookup x = some .cell
  nofree : ∀ y ∈ sc.names, y.2 ≠ .free

theorem bindL_out {kindOf : Str → Option NameKind} {x : Str} : ∀ {binds : List (Str × Value)} {m : Str → Option Value}, (∀ v, (x, v) ∉ binds) → bindL kindOf binds m x = m x
  | [], _, _ => rfl
  | (n, v) :: r, m, h => by
    unfold bindL
    rw [bindL_out fun w hw => h w (List.mem_cons_of_mem _ hw)]
    split
    · have : x ≠ n := by rintro rfl; exact h v List.mem_cons_self
      simp [this]
    · rfl
theorem bindC_out {kindOf : Str → Option NameKind} {x : Str} : ∀ {binds : List (Str × Value)} {m : Str → Option Value}, (∀ v, (x, v) ∉ binds) → bindC kindOf binds m x = m x
  | [], _, _ => rfl
  | (n, v) :: r, m, h => by
    unfold bindC
    rw [bindC_out fun w hw => h w (List.mem_cons_of_mem _ hw)]
    split
    · rfl
    · have : x ≠ n := by rintro rfl; exact h v List.mem_cons_self
      simp [this]
theorem bindL_get {kindOf : Str → Option NameKind} {x : Str} {v : Value} : ∀ {P : List Str} {vs : List Value} {i : Nat} {m : Str → Option Value}, P.Nodup → P[i]? = some x → vs[i]? = some v → kindOf x = some .local →
    bindL kindOf (P.zip vs) m x = some v
  | [], _, _, _, _, h, _, _ => by simp at h
  | _ :: _, [], _, _, _, _, h, _ => by simp at h
  | p :: P, w :: vs, 0, m, nd, h1, h2, hk => by
    simp at h1 h2; subst h1; subst h2
    show bindL kindOf ((p, w) :: P.zip vs) m p = _
    unfold bindL
    rw [bindL_out fun v hv => (List.nodup_cons.mp nd).1 (List.of_mem_zip hv).1, if_pos hk]
    simp
  | p :: P, w :: vs, i + 1, m, nd, h1, h2, hk => by
    show bindL kindOf ((p, w) :: P.zip vs) m x = _
    unfold bindL
    exact bindL_get (i := i) (List.nodup_cons.mp nd).2 (by simpa using h1) (by simpa using h2) hk
theorem bindC_get {kindOf : Str → Option NameKind} {x : Str} {v : Value} : ∀ {P : List Str} {vs : List Value} {i : Nat} {m : Str → Option Value}, P.Nodup → P[i]? = some x → vs[i]? = some v → kindOf x ≠ some .local →
    bindC kindOf (P.zip vs) m x = some v
  | [], _, _, _, _, h, _, _ => by simp at h
  | _ :: _, [], _, _, _, _, h, _ => by simp at h
  | p :: P, w :: vs, 0, m, nd, h1, h2, hk => by
    simp at h1 h2; subst h1; subst h2
    show bindC kindOf ((p, w) :: P.zip vs) m p = _
    unfold bindC
    rw [bindC_out fun v hv => (List.nodup_cons.mp nd).1 (List.of_mem_zip hv).1, if_neg hk]
    simp
  | p :: P, w :: vs, i + 1, m, nd, h1, h2, hk => by
    show bindC kindOf ((p, w) :: P.zip vs) m x = _
    unfold bindC
    exact bindC_get (i := i) (List.nodup_cons.mp nd).2 (by simpa using h1) (by simpa using h2) hk

noncomputable def start (N : List Str) (vs : List V) : St := vs.map some ++ List.replicate (N.length - vs.length) none

noncomputable def cxOf (CX : CXT) (P : Program) (w : World) (K : PySem.W.Frag) (mg : Str → Option Value) (base : Heap) (N : List Str) (qual : Str) (scope : Scope) (f : Addr) (cd : Value) (A : Around) (outer : List Env) (s : Shared) (H : Hp) (E : XK) : Cx where
  prog := P
  w := w
  K := K
  mg := mg
  base := base
  A := A.deeper (envOfC qual scope s.heap.objs.size f cd)
  N := N
  s₀ := s
  H₀ := H
  env := envOfC qual scope s.heap.objs.size f cd
  outer := outer
  stack := envOfC qual scope s.heap.objs.size f cd :: outer
  ex := []
  calm := true
  fn := fun _ => true
  pn := []
  xe := fun e s' => wpAny (model P w) (A.deeper (envOfC qual scope s.heap.objs.size f cd)) (leaving (envOfC qual scope s.heap.objs.size f cd) e) (fun _ s'' => CX outer H s E e s'') (fun e' s'' => CX outer H s E e' s'') s'

theorem cell_has {sc : Scope} {n : Nat} {x : Str} (h : sc.names.lookup x = some .cell) : ∃ c, (cellsFrom n sc.names []).lookup x = some c := by
  have q := PySem.W.cellsFrom_some sc.names n [] (.inl h)
  exact Option.isSome_iff_exists.mp q

theorem inv_start {CX : CXT} {P : Program} {w : World} {K : PySem.W.Frag} {mg : Str → Option Value} {base : Heap} {N ps : List Str} {qual : Str} {scope : Scope} {f : Addr} {cd : Value} {A : Around} {outer : List Env} {s s1 : Shared} {H : Hp} {E : XK} {us : List Value} {vs : List V}
    (S : FnScope N ps scope) (hd : A.handled = none) (e0 : Env0 P w K mg base A outer s H) (hl : vs.length = ps.length) (r : Vals vs us)
    (x : InCallC s s.heap.objs.size (bindL (envOfC qual scope s.heap.objs.size f cd).kindOf (ps.zip us) fun _ => none) (cellsFrom (s.heap.objs.size + 1) scope.names []) (bindC (envOfC qual scope s.heap.objs.size f cd).kindOf (ps.zip us) fun _ => none) s1) :
    Inv (cxOf CX P w K mg base N qual scope f cd A outer s H E) [] (start N vs) H s1 := by
  have hpl : ps.length ≤ N.length := by have := congrArg List.length S.pre; rw [List.length_take] at this; omega
  obtain ⟨h1, tk, rfl, hk⟩ := x.done
  have noA : ∀ b : Addr, b ∉ (cxOf CX P w K mg base N qual scope f cd A outer s H E).ex := fun b z => absurd (show b ∈ ([] : List Addr) from z) (by simp)
  refine ⟨⟨e0.mod, S.kind, rfl, rfl, Nat.le_refl _, fun y z c h1 h2 => ?_, fun y hy => ?_, fun y c _ h => ?_, fun _ => hd, Around.frames_deeper e0.frames, .inr ⟨rfl, rfl⟩, fun b z => absurd z (noA b), e0.bs, e0.bsz, fun b _ _ => noA b, fun b z => absurd z (noA b), e0.funs, e0.frf⟩,
    rfl, e0.bare, Un.kept hk, ⟨_, x.toInCall.ns, fun i y v h1 h2 h3 => ?_⟩, fun y c h => ⟨_, x.cell y c h⟩, e0.hok.fresh (Nat.le_refl _), fun y c h => ?_, fun p hp => absurd (show p ∈ ([] : List (Addr × Obj)) from hp) (by simp), e0.hok.kept hk, ?_⟩
  · exact name_of_addr x.apart (PySem.mem_of_lookup h1) (PySem.mem_of_lookup h2)
  · have hy : scope.names.lookup y = some .cell ∨ scope.names.lookup y = some .free := hy
    rcases hy with hy | hy
    · exact cell_has hy
    · exact absurd rfl (S.nofree _ (PySem.mem_of_lookup hy))
  · exact Nat.le_of_lt (x.above y c (PySem.mem_of_lookup h))
  · have hi : i < vs.length := by
      unfold start at h2
      by_cases hi : i < vs.length
      · exact hi
      · rw [List.getElem?_append_right (by simpa using hi)] at h2
        rw [List.getElem?_replicate] at h2
        split at h2 <;> cases h2
    have ha : vs[i]? = some v := by
      unfold start at h2
      rw [List.getElem?_append_left (by simpa using hi), List.getElem?_map] at h2
      cases e : vs[i]? with
      | none => rw [e] at h2; cases h2
      | some a => rw [e] at h2; cases h2; rfl
    obtain ⟨u, hu, rv⟩ := r.get ha
    have hp : ps[i]? = some y := by
      rw [← S.pre, List.getElem?_take_of_lt (by omega)]; exact h1
    have ndP : ps.Nodup := by rw [← S.pre]; exact S.nd.sublist (List.take_sublist _ _)
    refine ⟨u, rv, ?_⟩
    rcases S.par y (List.mem_of_getElem? hp) with k | k
    · exact .inl ⟨k, bindL_get ndP hp hu k⟩
    · obtain ⟨c, e⟩ := cell_has (n := s.heap.objs.size + 1) k
      refine .inr ⟨.inl k, c, e, ?_⟩
      have q := x.cell y c e
      rw [bindC_get ndP hp hu (by show scope.names.lookup y ≠ _; rw [k]; decide)] at q
      exact q
  · exact e0.hok.fresh (Nat.le_of_lt (x.above y c (PySem.mem_of_lookup h)))
  · unfold start
    show _ = N.length
    rw [List.length_append, List.length_map, List.length_replicate]
    omega

theorem fn_of {CX : CXT} {P : Program} {w : World} {K : PySem.W.Frag} {mg : Str → Option Value} {base : Heap} {k : Nat} {f : Addr} {name qual : Str} {params : Arguments} {body : List Stmt} {scope : Scope} {dV kV doc pm cdv ct oc : Value} {an od : Option Addr}
    {osl : Array (Option Value)} {N ps : List Str} {sp : Sp} (lk : K.lookup f = some ⟨oc, od, .func (PySem.W.fnOf name qual params body scope dV kV doc pm an cdv ct), osl⟩) (hcd : PySem.W.codeIn K cdv qual = true) (S : FnScope N ps scope)
    (len : ∀ vs H Q E, sp vs H Q E → vs.length = ps.length)
    (hbody : ∀ (A : Around) (outer : List Env) (s : Shared) (H : Hp) (vs : List V) (Q : VK) (E : XK), Room k (A.deeper (envOfC qual scope s.heap.objs.size f cdv)) → sp vs H Q E →
      ∃ t, PSs (cxOf CX P w K mg base N qual scope f cdv A outer s H E) body t ∧ t { nx := fun _ H' => Q .non H', rt := Q } (start N vs) H) :
    FnOk P w K mg base CX (k + 1) f (PySem.W.fnOf name qual params body scope dV kV doc pm an cdv ct) ps sp := by
  refine ⟨len, fun A outer s H args us vs Q E hr e0 hb r hsp => ?_⟩
  have hl := len _ _ _ _ hsp
  have KX : K.In s.heap := e0.mod.kin.keeps fun b o e => (e0.bs b o e).1
  have lim : s.heap.NoLimit := e0.mod.nolimit.keeps fun b o e => (e0.bs b o e).1
  have hkind : ∀ y ∈ ps.zip us, scope.names.lookup y.1 = some .local ∨ (scope.names.lookup y.1 = some .cell ∧ ((cellsFrom (s.heap.objs.size + 1) scope.names []).lookup y.1).isSome = true) := fun ⟨n, v⟩ hy => by
    rcases S.par n (List.of_mem_zip hy).1 with q | q
    · exact .inl q
    · exact .inr ⟨q, PySem.W.cellsFrom_some _ _ _ (.inl q)⟩
  refine codeAny_call_function hr.depth (KX _ _ lk) rfl S.co S.gen rfl (PySem.W.codeRec_of KX hcd) (hb _ _ _ _ ?_)
  refine wpAny_newFunctionEnv_cells S.kind hkind fun env he s1 x => ?_
  subst he
  refine ⟨lim.keeps x.toInCall.keep, codeAny_func ?_⟩
  obtain ⟨t, ht, hq⟩ := hbody A outer s H vs Q E (hr.deeper _) hsp
  have I : Inv (cxOf CX P w K mg base N qual scope f cdv A outer s H E) [] (start N vs) H s1 := inv_start S hr.hd e0 hl r x
  refine wpAny_mono (ht [] s1 (start N vs) H _ I hq) (fun fl s' hs => ?_) fun e s' hs => hs
  have fin : ∀ {σ' : St} {H' : Hp} {v : V} {u : Value}, Inv (cxOf CX P w K mg base N qual scope f cdv A outer s H E) [] σ' H' s' → RelV v u → Q v H' → CE outer P w H s Q u s' :=
    fun {σ' H' v u} J rv q => ⟨v, H', J.os, J.bare, J.base, J.hok, rv, q⟩
  cases fl with
  | ret u =>
    obtain ⟨v, σ', H', J, rv, q⟩ := hs
    exact fin J rv q
  | next =>
    obtain ⟨σ', H', J, q⟩ := hs
    exact fin (v := V.non) (u := Value.none) J rfl q
  | brk =>
    obtain ⟨_, _, _, q⟩ := hs
    exact False.elim q
  | cont =>
    obtain ⟨_, _, _, q⟩ := hs
    exact False.elim q
end L2

namespace L2
open PySem PySem.Spec PyProof.Rows
section
variable {X : Cx} {x : Str} {p pos : Pos} {e : Expr} {es : List Expr} {t : TA} {id T : String} {r : List V → Hp → VK → Prop}

noncomputable def tCB (r : List V → Hp → VK → Prop) (t : TA) : TE := fun σ H Q => t σ H fun vs H1 => r vs H1 Q
theorem pe_callB (hc : CallR X (.builtin id) r) (hg : Gl X x) (hm : X.mg x = none) (hv : bootBuiltins x = some (.builtin id)) (ha : PA X (e :: es) t) (hn : x ≠ "__name__" := by decide) (hdb : (x == ("__debug__" : Str)) = false := by decide)
    (he : starEach (e :: es) X.env = (false, eval e X.env) :: starEach es X.env := by rfl) (hpl : (backTo pos (starEach es X.env)).any (·.1) = false := by rfl) : PE X (.Call (.Name x p) (e :: es) [] pos) (tCB r t) := by
  intro pins s σ H Q I h
  refine wpAny_Call_Name_kw (ld_blt I hg hm hv ?_ hn hdb)
  exact PyProof.Rows.callWith_builtin1 (thn (ha pos pins s σ H _ I h) fun us s1 ⟨vs, H1, I1, r1, q1⟩ => hc pins s1 σ H1 vs us Q I1 r1 q1) he hpl
theorem pe_callTy (hc : CallR X (.type T) r) (hg : Gl X x) (hm : X.mg x = none) (hv : bootBuiltins x = some (.type T)) (ha : PA X (e :: es) t) (hn : x ≠ "__name__" := by decide) (hdb : (x == ("__debug__" : Str)) = false := by decide)
    (he : starEach (e :: es) X.env = (false, eval e X.env) :: starEach es X.env := by rfl) (hpl : (backTo pos (starEach es X.env)).any (·.1) = false := by rfl) : PE X (.Call (.Name x p) (e :: es) [] pos) (tCB r t) := by
  intro pins s σ H Q I h
  refine wpAny_Call_Name_kw (ld_blt I hg hm hv ?_ hn hdb)
  exact PyProof.Rows.callWith_type1 (thn (ha pos pins s σ H _ I h) fun us s1 ⟨vs, H1, I1, r1, q1⟩ => hc pins s1 σ H1 vs us Q I1 r1 q1) he hpl
end
end L2

namespace HT
open PySem PyProof.Rows

section
open PySem.SeqAt
open PySem.AutoSeq1 (wpAny_loadPart')
open PySem.MeetsSeq PySem.MeetsSeq2 PySem.MeetsSeq3

end

section
variable {prog : Program} {w : World} {A : Around} {E : Value → Shared → Prop} {s : Shared}

theorem cat_tup {t b : Addr} {vs ws : List Value} {Q : Value → Shared → Prop} (ht : IsTup s.heap t vs.toArray) (hb : IsTup s.heap b ws.toArray) (hv : vs ≠ [])
    (h1 : ws = [] → Q (.ref t) s) (h2 : ws ≠ [] → Q (.ref s.heap.objs.size) { s with heap := s.heap.push { cls := .type "tuple", data := .seq (vs ++ ws).toArray } })
    (hsz : vs.length + ws.length ≤ sizeLine) : wpAny (model prog w) A (binaryOp .Add (.ref t) (.ref b)) Q E s := by
  obtain ⟨⟨cls, dd, data, sl⟩, ho, hc, n, hd⟩ := id ht
  obtain ⟨⟨cls2, dd2, data2, sl2⟩, ho2, hc2, n2, hd2⟩ := id hb
  simp only at hc hd hc2 hd2
  subst hc hd hc2 hd2
  have e : vs.toArray ++ ws.toArray = (vs ++ ws).toArray := by simp
  by_cases hw : ws = []
  · exact concat_meets ⟨_, ho, rfl⟩ ⟨_, ho2, rfl⟩ noFill_tuple_add seq_tuple_add PySem.F.slot_tuple_add PySem.F.entry_tuple_add (PySem.F.args_tuple_add_2 _ _)
      (tuple_addW1 t b vs.toArray ws.toArray n n2 dd dd2 sl sl2 (by simpa using hv) (by simp [hw])) ⟨ho, ho2, h1 hw⟩
  · refine concat_meets ⟨_, ho, rfl⟩ ⟨_, ho2, rfl⟩ noFill_tuple_add seq_tuple_add PySem.F.slot_tuple_add PySem.F.entry_tuple_add (PySem.F.args_tuple_add_2 _ _)
      (tuple_addW2 t b vs.toArray ws.toArray n n2 dd dd2 sl sl2 (by simpa using hv) (by simpa using hw) (by rw [List.size_toArray, List.size_toArray]; exact hsz)) ⟨ho, ho2, ?_⟩
    rw [e]
    exact h2 hw

noncomputable def sIx (n d : Nat) : Option Int → Nat
  | none => d
  | some v => if v < 0 then (v + (n : Int)).toNat else min v.toNat n
theorem sIx_none (n d : Nat) : sIx n d none = d := rfl
theorem sIx_nat (n d k : Nat) : sIx n d (some (k : Int)) = min k n := by
  show (if (k : Int) < 0 then ((k : Int) + (n : Int)).toNat else min (k : Int).toNat n) = min k n
  rw [if_neg (by omega), Int.toNat_natCast]
theorem sIx_le (n d : Nat) (hd : d ≤ n) (o : Option Int) : sIx n d o ≤ n := by
  cases o with
  | none => exact hd
  | some v =>
    show (if v < 0 then (v + (n : Int)).toNat else min v.toNat n) ≤ n
    by_cases hv : v < 0
    · rw [if_pos hv]; omega
    · rw [if_neg hv]; exact Nat.min_le_right _ _
theorem clip_eq (v : Int) (n d : Nat) : (if v < 0 then max (v + (n : Int)) 0 else min v (n : Int)) = ((sIx n d (some v) : Nat) : Int) := by
  show (if v < 0 then max (v + (n : Int)) 0 else min v (n : Int)) = (((if v < 0 then (v + (n : Int)).toNat else min v.toNat n) : Nat) : Int)
  by_cases hv : v < 0
  · simp only [if_pos hv]; omega
  · simp only [if_neg hv]; omega
theorem adjust_gen (lo hi : Option Int) (n : Nat) : Builtin.Slice.sliceAdjust lo hi 1 (n : Int) = (((sIx n 0 lo : Nat) : Int), ((sIx n n hi : Nat) : Int)) := by
  have h1 : ¬ ((1 : Int) < 0) := by omega
  unfold Builtin.Slice.sliceAdjust
  simp only [h1, if_false]
  refine Prod.ext ?_ ?_
  · cases lo with
    | none => rfl
    | some v => exact clip_eq v n 0
  · cases hi with
    | none => rfl
    | some v => exact clip_eq v n n
theorem places_gen (i j : Nat) : Builtin.Slice.slicePlaces (i : Int) (j : Int) 1 = j - i := by
  unfold Builtin.Slice.slicePlaces
  have h1 : (1 : Int) > 0 := by omega
  simp only [h1, if_true, Int.ediv_one]
  split <;> omega
theorem slicePart_ {v : Value} {o : Option Int} {Q : Option Int → Shared → Prop} (p : IsPart v o) (h : Q o s) : wpAny (model prog w) A (Builtin.Slice.slicePartIndex v) Q E s := by
  cases p with
  | none => exact slicePart_none h
  | int i t => exact slicePart_int h
theorem sliceApplied_gen {sl : Addr} {vl vu : Value} {lo hi : Option Int} {n : Nat} {Q : Int × Int × Nat → Shared → Prop} (hs : s.heap.IsSliceOf sl vl vu .none) (pl : IsPart vl lo) (pu : IsPart vu hi)
    (h : Q (((sIx n 0 lo : Nat) : Int), 1, sIx n n hi - sIx n 0 lo) s) : wpAny (model prog w) A (Builtin.Slice.sliceApplied (.ref sl) (pure (n : Int))) Q E s := by
  obtain ⟨os, hos, hcs, hds⟩ := id hs
  unfold Builtin.Slice.sliceApplied Builtin.Slice.sliceFields
  refine wpAny_bind (wpAny_bind (wpAny_field hos hds (x := vl) rfl (wpAny_bind (wpAny_field hos hds (x := vu) rfl (wpAny_bind (wpAny_field hos hds (x := .none) rfl (wpAny_pure ?_)))))))
  refine wpAny_bind (slicePart_none ?_)
  show wpAny _ _ (if ((1 : Int) == 0) = true then _ else _) _ _ s
  rw [if_neg (by decide)]
  refine wpAny_bind (slicePart_ pl (wpAny_bind (slicePart_ pu (wpAny_bind (wpAny_pure ?_)))))
  show wpAny _ _ (match Builtin.Slice.sliceAdjust lo hi 1 (n : Int) with | (lo, hi) => pure (lo, (1 : Int), Builtin.Slice.slicePlaces lo hi 1)) _ _ s
  rw [adjust_gen lo hi n]
  show wpAny _ _ (pure (((sIx n 0 lo : Nat) : Int), (1 : Int), Builtin.Slice.slicePlaces ((sIx n 0 lo : Nat) : Int) ((sIx n n hi : Nat) : Int) 1)) _ _ s
  rw [places_gen]
  exact wpAny_pure h
theorem pick_gen (xs : Array Value) (i k : Nat) : ((List.range k).filterMap fun (m : Nat) => xs[((i : Int) + (m : Int) * 1).toNat]?).toArray = ((xs.toList.drop i).take k).toArray := by
  have e : (fun (m : Nat) => xs[((i : Int) + (m : Int) * 1).toNat]?) = fun m => xs[i + m]? := by
    funext m
    have : ((i : Int) + (m : Int) * 1).toNat = i + m := by omega
    rw [this]
  rw [e]
  have := pick_run xs i k
  rw [List.filterMap_map] at this
  have e2 : ((fun x => xs[x]?) ∘ fun x => i + x) = fun m => xs[i + m]? := rfl
  rw [e2] at this
  rw [this]

theorem getItem_tuple_cut {t sl : Addr} {items : Array Value} {vl vu : Value} {lo hi : Option Int} {Q : Value → Shared → Prop} (ht : IsTup s.heap t items) (hs : s.heap.IsSliceOf sl vl vu .none) (pl : IsPart vl lo) (pu : IsPart vu hi)
    (hw : ¬ (sIx items.size 0 lo = 0 ∧ sIx items.size items.size hi = items.size))
    (h : Q (.ref s.heap.objs.size) { s with heap := s.heap.push { cls := .type "tuple", data := .seq ((items.toList.drop (sIx items.size 0 lo)).take (sIx items.size items.size hi - sIx items.size 0 lo)).toArray } })
    (hsz : items.size ≤ sizeLine) : wpAny (model prog w) A (getItem (.ref t) (.ref sl)) Q E s := by
  have htake : sizeOk (.seq ((items.toList.drop (sIx items.size 0 lo)).take (sIx items.size items.size hi - sIx items.size 0 lo)).toArray) := by
    show ((items.toList.drop (sIx items.size 0 lo)).take (sIx items.size items.size hi - sIx items.size 0 lo)).toArray.size ≤ sizeLine
    rw [List.size_toArray, List.length_take, List.length_drop, Array.length_toList]
    omega
  have hj : sIx items.size items.size hi ≤ items.size := sIx_le _ _ (Nat.le_refl _) hi
  obtain ⟨os, hos, hcs, hds⟩ := id hs
  have hTs : s.TypeIs (.ref sl) "slice" := ⟨os, hos, hcs⟩
  unfold getItem
  try with_reducible refine wpAny_holding ?_
  first | refine wpAny_bind (wpAny_pure ?_) | skip
  refine wpAny_bind (wpAny_sequenceKey ht.typeIs (by decide) ?_)
  refine wpAny_bind (wpAny_callSpecial?_slot (name := Str.ofString "__getitem__") ht.typeIs PyProof.Rows.slot_tuple_getitem
    (wpAny_call_entry PyProof.Rows.slot_tuple_getitem ht.typeIs entry_tuple_getitem ?_ (args_tuple_getitem _ _)))
  show wpAny _ _ (Builtin.Tuple.tupleItemsOf (.ref t) >>= _) _ _ s
  refine wpAny_bind (tupleItemsOf_ ht ?_)
  refine wpAny_bind (wpAny_typeOf hTs ?_)
  rw [if_pos (by decide)]
  refine wpAny_bind (sliceApplied_gen hs pl pu ?_)
  have hno : ¬ ((((sIx items.size 0 lo : Nat) : Int) == 0 && (1 : Int) == 1 && (sIx items.size items.size hi - sIx items.size 0 lo) == items.size) = true) := by
    intro q
    rw [Bool.and_eq_true, Bool.and_eq_true] at q
    have q1 : ((sIx items.size 0 lo : Nat) : Int) = 0 := eq_of_beq q.1.1
    have q2 : sIx items.size items.size hi - sIx items.size 0 lo = items.size := eq_of_beq q.2
    exact hw ⟨by omega, by omega⟩
  show wpAny _ _ (if (((sIx items.size 0 lo : Nat) : Int) == 0 && (1 : Int) == 1 && (sIx items.size items.size hi - sIx items.size 0 lo) == items.size) = true then _ else _) _ _ s
  rw [if_neg hno, pick_gen]
  first
    | exact wpAny_bind (m := Builtin.Tuple.tupleExact _) (wpAny_newObj_type (wpAny_pure ⟨_, rfl, wpAny_pure h⟩) htake)
    | exact wpAny_bind (m := Builtin.Tuple.tupleExact _) (wpAny_newObj_type (wpAny_bind (wpAny_pure (wpAny_pure ⟨_, rfl, wpAny_pure h⟩))) htake)
    | exact wpAny_bind (wpAny_bind (m := Builtin.Tuple.tupleExact _) (wpAny_newObj_type (wpAny_pure (wpAny_pure ⟨_, rfl, wpAny_pure h⟩)) htake))
    | exact wpAny_bind (wpAny_bind (m := Builtin.Tuple.tupleExact _) (wpAny_newObj_type (wpAny_pure ⟨_, rfl, wpAny_pure h⟩) htake))
end
end HT

namespace L2
open PySem PySem.Spec PyProof.Rows

noncomputable abbrev TO := St → Hp → (Option Int → Hp → Prop) → Prop
noncomputable def PO (X : Cx) (e : Option Expr) (t : TO) : Prop :=
  ∀ (pins : List (Addr × Obj)) (s : Shared) (σ : St) (H : Hp) (Q : Option Int → Hp → Prop), Inv X pins σ H s → t σ H Q →
    wpAny (model X.prog X.w) X.A (evalPart e X.env) (fun u s' => ∃ o H', Inv X pins σ H' s' ∧ IsPart u o ∧ Q o H') X.xe s
noncomputable def tNoPart : TO := fun _ H Q => Q none H
noncomputable def tPart (t : TE) : TO := fun σ H Q => t σ H fun x H1 => ∃ i, x = .int i ∧ Q (some i) H1

section
variable {X : Cx} {e : Expr} {te : TE} {lo hi : Option Expr} {tl th : TO} {pos p2 : Pos}

theorem po_none : PO X none tNoPart := by
  intro pins s σ H Q I h
  rw [evalPart_none]
  exact wpAny_pure ⟨none, H, I, .none, h⟩
theorem po_some (h : PE X e te) : PO X (some e) (tPart te) := by
  intro pins s σ H Q I hw
  rw [evalPart_some]
  refine thn (h pins s σ H _ I hw) fun u s1 ⟨x, H1, I1, r1, q1⟩ => ?_
  obtain ⟨i, rfl, q⟩ := q1
  obtain ⟨t, rfl⟩ := r1
  exact ⟨some i, H1, I1, .int i t, q⟩

noncomputable def SlR (X : Cx) (r : V → Option Int → Option Int → Hp → VK → Prop) : Prop :=
  ∀ (pins : List (Addr × Obj)) (s : Shared) (σ : St) (H : Hp) (x : V) (v vl vu : Value) (lo hi : Option Int) (sl : Addr) (Q : VK), Inv X pins σ H s → RelV x v → s.heap.IsSliceOf sl vl vu .none → IsPart vl lo → IsPart vu hi → r x lo hi H Q →
    ∃ T id, typeLookup (.type T) "__getitem__" = pure (some (.builtin id)) ∧ s.TypeIs v T ∧ wpAny (model X.prog X.w) X.A (getItem v (.ref sl)) (EP X pins σ Q) X.xe s
theorem SlR.or {r r' : V → Option Int → Option Int → Hp → VK → Prop} (h : SlR X r) (h' : SlR X r') : SlR X (fun x lo hi H Q => r x lo hi H Q ∨ r' x lo hi H Q) := by
  intro pins s σ H x v vl vu lo hi sl Q I rx hs pl pu q
  rcases q with q | q
  · exact h pins s σ H x v vl vu lo hi sl Q I rx hs pl pu q
  · exact h' pins s σ H x v vl vu lo hi sl Q I rx hs pl pu q
noncomputable def tSl (r : V → Option Int → Option Int → Hp → VK → Prop) (te : TE) (tl th : TO) : TE := fun σ H Q => te σ H fun x H1 => tl σ H1 fun l H2 => th σ H2 fun u H3 => r x l u H3 Q
theorem pe_slice {r : V → Option Int → Option Int → Hp → VK → Prop} (hr : SlR X r) (he : PE X e te) (hl : PO X lo tl) (hu : PO X hi th) : PE X (.Subscript e (.Slice lo hi none p2) pos) (tSl r te tl th) := by
  intro pins s σ H Q I h
  refine Subscript_ (thn (he pins s σ H _ I h) fun v s1 ⟨x, H1, I1, r1, q1⟩ => ?_)
  refine wpAny_Slice (thn (hl pins s1 σ H1 _ I1 q1) fun vl s2 ⟨l, H2, I2, pl, q2⟩ => thn (hu pins s2 σ H2 _ I2 q2) fun vu s3 ⟨u, H3, I3, pu, q3⟩ => ?_)
  rw [evalPart_none]
  refine wpAny_pure ?_
  have I4 : Inv X pins σ H3 { s3 with heap := s3.heap.push { cls := .type "slice", data := .fields #[vl, vu, .none] } } := I3.kept (t' := s3.toks) fun b ob q => Heap.get?_push_of_some _ q
  obtain ⟨T, id, hT, ht, hg⟩ := hr pins { s3 with heap := s3.heap.push { cls := .type "slice", data := .fields #[vl, vu, .none] } } σ H3 x v vl vu l u s3.heap.objs.size Q I4 r1 (Heap.IsSliceOf.new ..) pl pu q3
  show wpAny (model X.prog X.w) X.A (subscriptTail e (.Slice lo hi none p2) v (.ref s3.heap.objs.size)) (EP X pins σ Q) X.xe { s3 with heap := s3.heap.push { cls := .type "slice", data := .fields #[vl, vu, .none] } }
  exact tail_any (ops := [.ref s3.heap.objs.size, v]) ht hT hg (by with_unfolding_all rfl)

noncomputable def cutV (xs : List V) (lo hi : Option Int) : List V := (xs.drop (HT.sIx xs.length 0 lo)).take (HT.sIx xs.length xs.length hi - HT.sIx xs.length 0 lo)
theorem cutV_length (xs : List V) (lo hi : Option Int) : (cutV xs lo hi).length ≤ xs.length := by
  unfold cutV
  rw [List.length_take, List.length_drop]
  omega
noncomputable def rSlT (K : PySem.W.Frag) : V → Option Int → Option Int → Hp → VK → Prop := fun x lo hi H Q => ∃ a xs, x = .ref a ∧ SqT K H a xs ∧
  ¬ (HT.sIx xs.length 0 lo = 0 ∧ HT.sIx xs.length xs.length hi = xs.length) ∧ ∀ p, H p = none → Q (.ref p) (upd H p (.tup (cutV xs lo hi)))
theorem sl_tup : SlR X (rSlT X.K) := by
  intro pins s σ H x v vl vu lo hi sl Q I rx hs pl pu h
  obtain ⟨a, xs, rfl, hx, hw, q⟩ := h
  cases rx
  obtain ⟨its, r, ht, hz⟩ := I.tuple hx
  have hlen : its.toArray.size = xs.length := by rw [List.size_toArray]; exact r.length.symm
  refine ⟨"tuple", _, PyProof.Rows.slot_tuple_getitem.lookup, ht.typeIs, ?_⟩
  refine HT.getItem_tuple_cut ht hs pl pu (by rw [hlen]; exact hw) ?_ (by rw [hlen]; exact hz)
  rw [hlen]
  refine ⟨.ref s.heap.objs.size, _, I.laid (t' := s.toks) (o := .tup (cutV xs lo hi)) (fun b ob q => Heap.get?_push_of_some _ q) (Nat.le_refl _) ?_, rfl, q _ (I.hok.fresh (Nat.le_refl _))⟩
  exact ⟨Nat.le_trans (cutV_length xs lo hi) hz, _, (r.drop (HT.sIx xs.length 0 lo)).take (HT.sIx xs.length xs.length hi - HT.sIx xs.length 0 lo), IsTup.new _ _⟩

noncomputable def rCatT (K : PySem.W.Frag) : R2 := fun x y H Q => ∃ a b xs ys, x = .ref a ∧ y = .ref b ∧ SqT K H a xs ∧ SqT K H b ys ∧ xs ≠ [] ∧ xs.length + ys.length ≤ sizeLine ∧
  (ys = [] → Q (.ref a) H) ∧ (ys ≠ [] → ∀ p, H p = none → Q (.ref p) (upd H p (.tup (xs ++ ys))))
theorem Vals.nil_iff {xs : List V} {us : List Value} (r : Vals xs us) : us = [] ↔ xs = [] := by
  cases r with
  | nil => simp
  | cons _ _ => simp
theorem op_catT : OpR X (binaryOp .Add) (rCatT X.K) := by
  intro pins s σ H x y v u Q I rx ry h
  obtain ⟨a, b, xs, ys, rfl, rfl, ha, hb, hx, hz, q1, q2⟩ := h
  cases rx
  cases ry
  obtain ⟨its, r1, p1, _⟩ := I.tuple ha
  obtain ⟨its2, r2, p2, _⟩ := I.tuple hb
  refine HT.cat_tup p1 p2 (fun z => hx (r1.nil_iff.mp z)) (fun z => ⟨.ref a, H, I, rfl, q1 (r2.nil_iff.mp z)⟩) (fun z => ?_) (by rw [← r1.length, ← r2.length]; exact hz)
  refine ⟨.ref s.heap.objs.size, _, I.laid (t' := s.toks) (o := .tup (xs ++ ys)) (fun b ob q => Heap.get?_push_of_some _ q) (Nat.le_refl _) ?_, rfl, q2 (fun w => z (r2.nil_iff.mpr w)) _ (I.hok.fresh (Nat.le_refl _))⟩
  exact ⟨by rw [List.length_append]; exact hz, _, r1.append r2, IsTup.new _ _⟩
end
end L2

namespace L2
open PySem PySem.Spec PyProof.Rows

noncomputable def ixN (n : Nat) (i : Int) : Option Nat := if 0 ≤ i then (if i < n then some i.toNat else none) else if -(n : Int) ≤ i then some (i + n).toNat else none
noncomputable def atI {α : Type} (xs : List α) (i : Int) : Option α := (ixN xs.length i).bind fun j => xs[j]?
theorem ixN_seq {n : Nat} {i : Int} {j : Nat} (h : ixN n i = some j) : seqIndex? i n = some j ∧ j < n ∧ -(n : Int) ≤ i ∧ i < n := by
  unfold ixN at h
  by_cases h0 : 0 ≤ i
  · rw [if_pos h0] at h
    by_cases h1 : i < n
    · rw [if_pos h1] at h
      have e : i.toNat = j := Option.some.inj h
      exact ⟨by rw [seqIndex_of h0 h1, e], by omega, by omega, h1⟩
    · rw [if_neg h1] at h; cases h
  · rw [if_neg h0] at h
    by_cases h1 : -(n : Int) ≤ i
    · rw [if_pos h1] at h
      have e : (i + n).toNat = j := Option.some.inj h
      exact ⟨by rw [seqIndex_neg (by omega) h1, e], by omega, h1, by omega⟩
    · rw [if_neg h1] at h; cases h
theorem atI_get {α : Type} {xs : List α} {i : Int} {v : α} (h : atI xs i = some v) : ∃ j, seqIndex? i xs.length = some j ∧ xs[j]? = some v ∧ j < xs.length ∧ -(xs.length : Int) ≤ i ∧ i < xs.length := by
  unfold atI at h
  cases e : ixN xs.length i with
  | none => rw [e] at h; cases h
  | some j =>
    rw [e] at h
    obtain ⟨h1, h2, h3, h4⟩ := ixN_seq e
    exact ⟨j, h1, h, h2, h3, h4⟩

noncomputable def PlainIx (b : Expr) : Prop := ∀ o i, subscripted b false o i = operate [o, i] (getItem o i)
noncomputable def IxR (X : Cx) (r : R2) : Prop :=
  ∀ (value slice : Expr) (pins : List (Addr × Obj)) (s : Shared) (σ : St) (H : Hp) (x y : V) (v u : Value) (Q : VK), Inv X pins σ H s → RelV x v → RelV y u → r x y H Q →
    subscripted slice false v u = operate [v, u] (getItem v u) → wpAny (model X.prog X.w) X.A (subscriptTail value slice v u) (EP X pins σ Q) X.xe s
noncomputable def MtR (X : Cx) (id : String) (r : V → List V → Hp → VK → Prop) : Prop :=
  ∀ (pins : List (Addr × Obj)) (s : Shared) (σ : St) (H : Hp) (x : V) (xs : List V) (v : Value) (us : List Value) (Q : VK), Inv X pins σ H s → RelV x v → Vals xs us → r x xs H Q →
    wpAny (model X.prog X.w) X.A (call (.builtin id) (v :: us)) (EP X pins σ Q) X.xe s
section
variable {X : Cx} {a b : Expr} {ta tb : TE} {pos : Pos}
theorem IxR.or {r r' : R2} (h : IxR X r) (h' : IxR X r') : IxR X (fun x y H Q => r x y H Q ∨ r' x y H Q) := by
  intro value slice pins s σ H x y v u Q I rx ry q hs
  rcases q with q | q
  · exact h value slice pins s σ H x y v u Q I rx ry q hs
  · exact h' value slice pins s σ H x y v u Q I rx ry q hs
theorem MtR.or {id : String} {r r' : V → List V → Hp → VK → Prop} (h : MtR X id r) (h' : MtR X id r') : MtR X id (fun x xs H Q => r x xs H Q ∨ r' x xs H Q) := by
  intro pins s σ H x xs v us Q I rx rs q
  rcases q with q | q
  · exact h pins s σ H x xs v us Q I rx rs q
  · exact h' pins s σ H x xs v us Q I rx rs q
theorem pe_ix {r : R2} (hr : IxR X r) (ha : PE X a ta) (hb : PE X b tb) (hs : PlainIx b) : PE X (.Subscript a b pos) (tOp r ta tb) := by
  intro pins s σ H Q I h
  exact Subscript_ (binT ha hb I h fun v u s2 x y H2 I2 rx ry q => hr a b pins s2 σ H2 x y v u Q I2 rx ry q (hs _ _))

noncomputable def rIxL (K : PySem.W.Frag) : R2 := fun x y H Q => ∃ p xs i v, x = .ref p ∧ y = .int i ∧ SqL K H p xs ∧ atI xs i = some v ∧ Q v H
noncomputable def rIxT (K : PySem.W.Frag) : R2 := fun x y H Q => ∃ p xs i v, x = .ref p ∧ y = .int i ∧ SqT K H p xs ∧ atI xs i = some v ∧ Q v H
theorem ix_list : IxR X (rIxL X.K) := by
  intro value slice pins s σ H x y v u Q I rx ry h hs
  obtain ⟨p, xs, i, z, rfl, rfl, hq, he, q⟩ := h
  cases rx
  obtain ⟨t, rfl⟩ := ry
  obtain ⟨its, r, pl, hz⟩ := I.list hq
  obtain ⟨j, h1, h2, h3, h4, h5⟩ := atI_get he
  obtain ⟨w, ew, rw'⟩ := r.get h2
  have hl := r.length
  have hn := line63
  have fin : EP X pins σ Q w s := ⟨z, H, I, rw', q⟩
  by_cases h0 : 0 ≤ i
  · have hj : i.toNat = j := by
      rw [seqIndex_of h0 h5] at h1
      exact Option.some.inj h1
    exact item_listR pl.isList h0 (by omega) (by rw [hj]; simpa using ew) fin hs
  · have hj : (i + (its.toArray.size : Int)).toNat = j := by
      rw [seqIndex_neg (by omega) h4] at h1
      rw [List.size_toArray, ← hl]
      exact Option.some.inj h1
    exact subscriptTail_builtinR (x := w) pl.isList.typeIs slot_list_getitem.lookup
      (wpAny_getItem_list_neg (Q := fun r s' => r = w ∧ EP X pins σ Q r s') pl.isList (by omega) (by rw [List.size_toArray] <;> omega) (by omega) (by rw [hj]; simpa using ew) ⟨rfl, fin⟩) hs
theorem ix_tup : IxR X (rIxT X.K) := by
  intro value slice pins s σ H x y v u Q I rx ry h hs
  obtain ⟨p, xs, i, z, rfl, rfl, hq, he, q⟩ := h
  cases rx
  obtain ⟨t, rfl⟩ := ry
  obtain ⟨its, r, pl, hz⟩ := I.tuple hq
  obtain ⟨j, h1, h2, h3, h4, h5⟩ := atI_get he
  obtain ⟨w, ew, rw'⟩ := r.get h2
  have hl := r.length
  have hn := line63
  have fin : EP X pins σ Q w s := ⟨z, H, I, rw', q⟩
  exact subscriptTail_builtinR (x := w) pl.typeIs slot_tuple_getitem.lookup
    (getItem_tuple (j := j) (Q := fun r s' => r = w ∧ EP X pins σ Q r s') pl (by omega) (by omega) (by rw [List.size_toArray, ← hl]; exact h1) (by simpa using ew) ⟨rfl, fin⟩) hs

theorem mapSeq_set (its : List Value) (n j : Nat) (u : Value) : Obj.mapSeq (·.setIfInBounds j u) { cls := .type "list", data := .seq its.toArray n } = { cls := .type "list", data := .seq (its.set j u).toArray n } := by
  simp [Obj.mapSeq]
theorem Inv.lst {pins : List (Addr × Obj)} {σ : St} {H : Hp} {s : Shared} {p : Addr} {xs : List V} (I : Inv X pins σ H s) (h : H p = some (.lst xs)) :
    ∃ (its : List Value) (n : Nat), Vals xs its ∧ s.heap.get? p = some { cls := .type "list", data := .seq its.toArray n } ∧ xs.length ≤ sizeLine := by
  obtain ⟨z, its, n, r, e⟩ := I.hok p _ h
  exact ⟨its, n, r, e, z⟩
theorem Inv.lstUpd {pins : List (Addr × Obj)} {σ : St} {H : Hp} {s : Shared} {p : Addr} {xs ys : List V} {its its' : List Value} {n n' : Nat} {f : Obj → Obj} (I : Inv X pins σ H s) (h : H p = some (.lst xs))
    (ho : s.heap.get? p = some { cls := .type "list", data := .seq its.toArray n }) (hf : f { cls := .type "list", data := .seq its.toArray n } = { cls := .type "list", data := .seq its'.toArray n' }) (r : Vals ys its') (hz : ys.length ≤ sizeLine) (t : Nat) :
    Inv X pins σ (upd H p (.lst ys)) { s with heap := s.heap.update p f, toks := t } := by
  have e : (s.heap.update p f).get? p = some { cls := .type "list", data := .seq its'.toArray n' } := by
    rw [Heap.get?_update_self f ho (by rw [hf] <;> rfl), hf]
  refine I.write (x := p) (e := p) (by rw [h]; trivial) (.inl rfl) (fun b u hb q => (Heap.get?_update_other _ _ (Ne.symm hb)).trans q) ⟨_, e⟩ ?_
  exact ⟨hz, its', n', r, e⟩
noncomputable def rSetL : V → V → V → Hp → (Hp → Prop) → Prop := fun o i v H Q => ∃ p xs k j, o = .ref p ∧ i = .int k ∧ H p = some (.lst xs) ∧ ixN xs.length k = some j ∧ Q (upd H p (.lst (xs.set j v)))
theorem set_list : PSet X rSetL := by
  intro pins s σ H o i v ov iv u Q I ro ri rv h
  obtain ⟨p, xs, k, j, rfl, rfl, hp, hj, q⟩ := h
  cases ro
  obtain ⟨t, rfl⟩ := ri
  obtain ⟨its, n, r, ho, hz⟩ := I.lst hp
  obtain ⟨h1, h2, h3, h4⟩ := ixN_seq hj
  have hl := r.length
  have hn := line63
  have I' : Inv X pins σ (upd H p (.lst (xs.set j v))) { s with heap := s.heap.update p (Obj.mapSeq (·.setIfInBounds j u)) } :=
    I.lstUpd hp ho (mapSeq_set its n j u) (r.set rv j) (by rw [List.length_set]; exact hz) s.toks
  by_cases h0 : 0 ≤ k
  · have hk : k.toNat = j := by
      rw [seqIndex_of h0 h4] at h1
      exact Option.some.inj h1
    exact PySem.W.ki_setAt ho h0 (by omega) (by rw [List.size_toArray, ← hl]; exact h4) (by rw [hk]; exact ⟨_, I', q⟩)
  · have hk : (k + (its.toArray.size : Int)).toNat = j := by
      rw [seqIndex_neg (by omega) h3] at h1
      rw [List.size_toArray, ← hl]
      exact Option.some.inj h1
    exact PySem.W.ki_setBack ho (by omega) (by rw [List.size_toArray, ← hl]; exact h3) (by omega) (by rw [hk]; exact ⟨_, I', q⟩)

theorem slice_bounds (lo hi : Option Int) (n : Nat) : (sliceBounds lo hi none n).1 = ((HT.sIx n 0 lo : Nat) : Int) ∧ (sliceBounds lo hi none n).2.1 = ((HT.sIx n n hi : Nat) : Int) ∧ (sliceBounds lo hi none n).2.2 = 1 := by
  refine ⟨?_, ?_, rfl⟩
  · cases lo with
    | none => simp [sliceBounds, HT.sIx]
    | some i =>
      simp only [sliceBounds, HT.sIx, Option.getD_none, show (1 : Int) > 0 by decide, if_true]
      by_cases h : i < 0
      · simp only [h, if_true] <;> omega
      · simp only [h, if_false] <;> omega
  · cases hi with
    | none => simp [sliceBounds, HT.sIx]
    | some i =>
      simp only [sliceBounds, HT.sIx, Option.getD_none, show (1 : Int) > 0 by decide, if_true]
      by_cases h : i < 0
      · simp only [h, if_true] <;> omega
      · simp only [h, if_false] <;> omega
theorem slicePick_cut (its : List Value) (lo hi : Option Int) : slicePick its.toArray lo hi none = ((its.drop (HT.sIx its.length 0 lo)).take (HT.sIx its.length its.length hi - HT.sIx its.length 0 lo)).toArray := by
  obtain ⟨h1, h2, h3⟩ := slice_bounds lo hi its.toArray.size
  unfold slicePick
  rw [h1, h2, h3]
  simp only [sliceRange_one, pick_run, List.size_toArray] <;> rfl
noncomputable def rSlL (K : PySem.W.Frag) : V → Option Int → Option Int → Hp → VK → Prop := fun x lo hi H Q => ∃ a xs, x = .ref a ∧ SqL K H a xs ∧ ∀ p, H p = none → Q (.ref p) (upd H p (.lst (cutV xs lo hi)))
theorem sl_list : SlR X (rSlL X.K) := by
  intro pins s σ H x v vl vu lo hi sl Q I rx hs pl pu h
  obtain ⟨a, xs, rfl, hx, q⟩ := h
  cases rx
  obtain ⟨its, r, ht, hz⟩ := I.list hx
  have hlen := r.length
  refine ⟨"list", _, slot_list_getitem.lookup, ht.isList.typeIs, ?_⟩
  refine wpAny_getItem_list_slice ht.isList hs pl pu .none (by simp) ?_ (by rw [List.size_toArray] <;> omega)
  rw [slicePick_cut, ← hlen]
  refine ⟨.ref s.heap.objs.size, _, I.laid (t' := s.toks) (o := .lst (cutV xs lo hi)) (fun b ob q => Heap.get?_push_of_some _ q) (Nat.le_refl _) ?_, rfl, q _ (I.hok.fresh (Nat.le_refl _))⟩
  exact ⟨Nat.le_trans (cutV_length xs lo hi) hz, _, 0, (r.drop (HT.sIx xs.length 0 lo)).take (HT.sIx xs.length xs.length hi - HT.sIx xs.length 0 lo), Heap.get?_push_size _ rfl⟩


theorem call_len_seq : CallR X (.builtin "len") (fun xs H Q => ∃ p ys, xs = [.ref p] ∧ (SqL X.K H p ys ∨ SqT X.K H p ys) ∧ Q (.int ys.length) H) := by
  intro pins s σ H xs us Q I r h
  obtain ⟨p, ys, rfl, hq, q⟩ := h
  obtain ⟨u, rfl, rx⟩ := vals1 r
  cases rx
  have hn := line63
  rcases hq with hq | hq
  · obtain ⟨its, r', pl, hz⟩ := I.list hq
    have hlen := r'.length
    exact Calls.call_len_list pl.isList (by simp only [List.size_toArray] <;> omega) ⟨.int ys.length, H, I.tok _, ⟨s.toks + 1, by rw [List.size_toArray, hlen]⟩, q⟩
  · obtain ⟨its, r', pl, hz⟩ := I.tuple hq
    have hlen := r'.length
    exact len_tuple pl (by simp only [List.size_toArray] <;> omega) ⟨.int ys.length, H, I.tok _, ⟨s.toks + 1, by rw [List.size_toArray, hlen]⟩, q⟩
theorem CallR.or {f : Value} {r r' : List V → Hp → VK → Prop} (h : CallR X f r) (h' : CallR X f r') : CallR X f (fun xs H Q => r xs H Q ∨ r' xs H Q) := by
  intro pins s σ H xs us Q I rs q
  rcases q with q | q
  · exact h pins s σ H xs us Q I rs q
  · exact h' pins s σ H xs us Q I rs q
theorem call_list_of : CallR X (.type "list") (fun xs H Q => ∃ p ys, xs = [.ref p] ∧ (SqL X.K H p ys ∨ SqT X.K H p ys) ∧ ∀ l, H l = none → Q (.ref l) (upd H l (.lst ys))) := by
  intro pins s σ H xs us Q I r h
  obtain ⟨p, ys, rfl, hq, q⟩ := h
  obtain ⟨u, rfl, rx⟩ := vals1 r
  cases rx
  have fin : ∀ (its : List Value), Vals ys its → ys.length ≤ sizeLine → ∀ (h' : Heap) (c' : Nat), (∀ b o', s.heap.get? b = some o' → h'.get? b = some o') →
      h'.get? s.heap.objs.size = some { cls := .type "list", dict := none, data := .seq its.toArray c', slots := #[] } → EP X pins σ Q (.ref s.heap.objs.size) { s with heap := h' } := fun its r' hz h' c' kp e =>
    ⟨.ref s.heap.objs.size, _, I.laid (t' := s.toks) kp (Nat.le_refl _) (show ObjOk X.prog X.w _ h' _ (.lst ys) from ⟨hz, its, c', r', e⟩), rfl, q _ (I.hok.fresh (Nat.le_refl _))⟩
  rcases hq with hq | hq
  · obtain ⟨its, r', pl, hz⟩ := I.list hq
    have hlen := r'.length
    obtain ⟨o, ho, hc, n, hd⟩ := pl.isList
    exact call_list_seq p (.inl rfl) ho hc hd (fun h' c' kp e => fin its r' hz h' c' kp e) (by simp only [List.size_toArray] <;> omega)
  · obtain ⟨its, r', pl, hz⟩ := I.tuple hq
    have hlen := r'.length
    obtain ⟨o, ho, hc, n, hd⟩ := pl
    exact call_list_seq p (.inr rfl) ho hc hd (fun h' c' kp e => fin its r' hz h' c' kp e) (by simp only [List.size_toArray] <;> omega)
theorem call_tuple_of : CallR X (.type "tuple") (fun xs H Q => ∃ p ys, xs = [.ref p] ∧ ((SqL X.K H p ys ∧ ∀ l, H l = none → Q (.ref l) (upd H l (.tup ys))) ∨ (SqT X.K H p ys ∧ Q (.ref p) H))) := by
  intro pins s σ H xs us Q I r h
  obtain ⟨p, ys, rfl, h⟩ := h
  obtain ⟨u, rfl, rx⟩ := vals1 r
  cases rx
  rcases h with ⟨hq, q⟩ | ⟨hq, q⟩
  · obtain ⟨its, r', pl, hz⟩ := I.list hq
    have hlen := r'.length
    refine call_tuple_list pl.isList (fun h' kp => ?_) (by simp only [List.size_toArray] <;> omega)
    have I1 : Inv X pins σ H { s with heap := h' } := I.kept (t' := s.toks) kp
    have I2 : Inv X pins σ (upd H h'.objs.size (.tup ys)) { s with heap := h'.push { cls := .type "tuple", data := .seq its.toArray } } :=
      I1.laid (t' := s.toks) (fun b o e => Heap.get?_push_of_some _ e) (Nat.le_refl _) (show ObjOk X.prog X.w _ _ _ (.tup ys) from ⟨hz, its, r', IsTup.new _ _⟩)
    exact ⟨.ref h'.objs.size, _, I2, rfl, q _ (I1.hok.fresh (Nat.le_refl _))⟩
  · obtain ⟨its, r', pl, hz⟩ := I.tuple hq
    exact call_tuple_same pl ⟨.ref p, H, I, rfl, q⟩

noncomputable def tyV (K : PySem.W.Frag) (T : String) (x : V) (H : Hp) : Prop := match x with
  | .str _ => T = "str"
  | .int _ => T = "int"
  | .ref p => (T = "list" ∧ ∃ xs, SqL K H p xs) ∨ (T = "tuple" ∧ ∃ o, K.lookup p = some o ∧ o.cls = .type "tuple" ∧ o.dict = none) ∨
      (T = "dict" ∧ ((∃ kvs, H p = some (.dK kvs)) ∨ ∃ kvs, H p = some (.dT kvs))) ∨ (T = "set" ∧ ∃ S n, H p = some (.set S n))
  | _ => False
theorem tyV_is {pins : List (Addr × Obj)} {σ : St} {H : Hp} {s : Shared} {T : String} {x : V} {v : Value} (I : Inv X pins σ H s) (r : RelV x v) (ty : tyV X.K T x H) :
    s.TypeIs v T ∧ ∀ a, v = .ref a → ∃ ob, s.heap.get? a = some ob ∧ ob.dict = none := by
  cases x with
  | str z =>
    obtain ⟨t, rfl⟩ := r
    cases (show T = "str" from ty)
    exact ⟨typeIs_str s z t, fun _ e => nomatch e⟩
  | int i =>
    obtain ⟨t, rfl⟩ := r
    cases (show T = "int" from ty)
    exact ⟨typeIs_int s i t, fun _ e => nomatch e⟩
  | ref p =>
    cases r
    rcases ty with ⟨rfl, xs, hq⟩ | ⟨rfl, o, hk, hc, hd⟩ | ⟨rfl, hk⟩ | ⟨rfl, S, n, hk⟩
    · obtain ⟨its, _, pl, _⟩ := I.list hq
      refine ⟨pl.isList.typeIs, fun a e => ?_⟩
      cases e
      obtain ⟨o, n, e, c, hd, _⟩ := pl
      exact ⟨o, e, hd⟩
    · refine ⟨⟨o, I.kIn p o hk, hc⟩, fun a e => ?_⟩
      cases e
      exact ⟨o, I.kIn _ o hk, hd⟩
    · have z : ∃ o, s.heap.get? p = some o ∧ o.ExactDict := by
        rcases hk with ⟨kvs, hk⟩ | ⟨kvs, hk⟩
        · obtain ⟨_, _, _, _, o, _, _, e, ex, _⟩ := I.hok p _ hk
          exact ⟨o, e, ex⟩
        · obtain ⟨_, _, _, _, o, _, _, e, ex, _⟩ := I.hok p _ hk
          exact ⟨o, e, ex⟩
      obtain ⟨o, e, ex⟩ := z
      refine ⟨⟨o, e, ex.1⟩, fun a e2 => ?_⟩
      cases e2
      exact ⟨o, e, ex.2.1⟩
    · obtain ⟨o, _, _, _, e, ex, _⟩ := I.hok p _ hk
      refine ⟨⟨o, e, ex.1⟩, fun a e2 => ?_⟩
      cases e2
      exact ⟨o, e, ex.2.1⟩
  | _ => exact False.elim ty
noncomputable def tBM (K : PySem.W.Frag) (T : String) (r : V → List V → Hp → VK → Prop) (to : TE) (t : TA) : TE := fun σ H Q => to σ H fun x H1 => tyV K T x H1 ∧ t σ H1 fun xs H2 => r x xs H2 Q
variable {o e : Expr} {es : List Expr} {to : TE} {t : TA} {name : Str} {apos cpos : Pos} {T id : String} {r : V → List V → Hp → VK → Prop}
theorem pe_bm (pa : PlainAttrs T) (slot : Slot T name id) (hty : typeOf (.builtin id) = pure (.type "method_descriptor")) (hm : MtR X id r) (ho : PE X o to) (ha : PA X (e :: es) t)
    (hbase : attributeBase o name X.env (eval o X.env) = eval o X.env := by rfl)
    (hfew : ((backTo cpos (starEach (e :: es) X.env)).all (fun x => !x.1) && (backToKw cpos (keywordEach [] X.env)).all (fun x => x.1.isSome)
      && decide ((e :: es).length + ([] : List Keyword).length + (if ([] : List Keyword).isEmpty then 0 else 1) < 30)) = true := by rfl)
    (hline : (apos.endLine == cpos.line) = true := by rfl) (hs : starEach (e :: es) X.env = (false, eval e X.env) :: starEach es X.env := by rfl) (hplain : (backTo cpos (starEach es X.env)).any (·.1) = false := by rfl) :
    PE X (.Call (.Attribute o name apos) (e :: es) [] cpos) (tBM X.K T r to t) := by
  intro pins s σ H Q I h
  refine wpAny_Call_method_late hbase hfew hline rfl (thn (ho pins s σ H _ I h) fun v s1 ⟨x, H1, I1, r1, ty, q1⟩ => ?_)
  obtain ⟨h1, h2⟩ := tyV_is I1 r1 ty
  refine ⟨T, id, pa, slot, hty, h1, h2, ?_⟩
  have hA := ha cpos pins s1 σ H1 _ I1 q1
  rw [hs] at hA ⊢
  refine Calls.callWith_builtin (by show (false || (backTo cpos (starEach es X.env)).any (·.1)) = false; rw [hplain] <;> rfl) (Calls.evalArgs_plain ?_)
  exact thn hA fun us s2 ⟨vs, H2, I2, r2, q2⟩ => hm pins s2 σ H2 x vs v us Q I2 r1 r2 q2
/- xs.append(e), list.index on a module's tuple .. are MtR facts of 06m -/
end
end L2

namespace L2
open PySem PySem.Spec PyProof.Rows

noncomputable def MtM (X : Cx) (id : String) (r : V → List V → Hp → VK → Prop) : Prop :=
  ∀ (pins : List (Addr × Obj)) (s : Shared) (σ : St) (H : Hp) (x : V) (xs : List V) (v : Value) (us : List Value) (Q : VK), Inv X pins σ H s → RelV x v → Vals xs us → r x xs H Q →
    wpAny (model X.prog X.w) X.A (call (.builtin id) (v :: us)) (EP X pins σ Q) X.xe s

theorem Vals.one : ∀ {x : V} {us : List Value}, Vals [x] us → ∃ u, us = [u] ∧ RelV x u
  | _, _, .cons r .nil => ⟨_, rfl, r⟩
theorem Vals.two : ∀ {x y : V} {us : List Value}, Vals [x, y] us → ∃ u v, us = [u, v] ∧ RelV x u ∧ RelV y v
  | _, _, _, .cons r (.cons q .nil) => ⟨_, _, rfl, r, q⟩
theorem Vals.zero : ∀ {us : List Value}, Vals [] us → us = []
  | _, .nil => rfl
theorem Vals.rep {xs : List V} {us : List Value} (h : Vals xs us) : ∀ k : Nat, Vals (List.replicate k xs).flatten (List.replicate k us).flatten
  | 0 => .nil
  | k + 1 => by
    rw [List.replicate_succ, List.replicate_succ, List.flatten_cons, List.flatten_cons]
    exact Vals.append h (Vals.rep h k)
theorem foldl_rep (its : List Value) : ∀ (k : Nat) (acc : List Value),
    List.foldl (fun x1 x2 => x1 ++ x2) acc.toArray (List.replicate k its.toArray) = (acc ++ (List.replicate k its).flatten).toArray
  | 0, acc => by simp
  | k + 1, acc => by
    have e : acc.toArray ++ its.toArray = (acc ++ its).toArray := by simp
    have e2 : (acc ++ its) ++ (List.replicate k its).flatten = acc ++ (List.replicate (k + 1) its).flatten := by
      rw [List.replicate_succ, List.flatten_cons, List.append_assoc]
    rw [← e2, ← foldl_rep its k (acc ++ its), ← e, List.replicate_succ, List.foldl_cons]

section
variable {X : Cx} {pins : List (Addr × Obj)} {σ : St} {H : Hp} {s : Shared} {l b : Addr} {xs ys zs : List V}

theorem Inv.lset {its its' : List Value} {n : Nat} {f : Array Value → Array Value} {t' : Nat} (I : Inv X pins σ H s) (hH : H l = some (.lst xs))
    (e : s.heap.get? l = some { cls := .type "list", data := .seq its.toArray n }) (hf : f its.toArray = its'.toArray) (hv : Vals ys its') (hz : ys.length ≤ sizeLine) :
    Inv X pins σ (upd H l (.lst ys)) { s with heap := s.heap.update l (Obj.mapSeq f), toks := t' } := by
  have q := PySem.IsL.update e f
  rw [hf] at q
  refine I.write (x := l) (e := l) (by rw [hH]; exact trivial) (.inl rfl) (fun b' u hb hu => (Heap.get?_update_other s.heap (Obj.mapSeq f) (Ne.symm hb)).trans hu) ⟨_, q⟩ ?_
  exact ⟨hz, its', _, hv, q⟩
theorem Inv.lnew {its : List Value} {t' : Nat} (I : Inv X pins σ H s) (hv : Vals ys its) (hz : ys.length ≤ sizeLine) :
    Inv X pins σ (upd H s.heap.objs.size (.lst ys)) { s with heap := s.heap.push { cls := .type "list", data := .seq its.toArray }, toks := t' } :=
  I.laid (fun _ _ q => Heap.get?_push_of_some _ q) (Nat.le_refl _) ⟨hz, its, 0, hv, Heap.get?_push_size _ rfl⟩
theorem Inv.fresh (I : Inv X pins σ H s) : H s.heap.objs.size = none := I.hok.fresh (Nat.le_refl _)
theorem Inv.lstM (I : Inv X pins σ H s) (hH : H l = some (.lst xs)) : xs.length ≤ sizeLine ∧ ∃ (its : List Value) (n : Nat), Vals xs its ∧ xs.length = its.length ∧ s.heap.get? l = some { cls := .type "list", data := .seq its.toArray n } := by
  obtain ⟨z, its, n, r, e⟩ := I.hok l _ hH
  exact ⟨z, its, n, r, r.length, e⟩

theorem notLongL {n : Nat} (h : n ≤ sizeLine) : Builtin.List.listTooLong n = false := by
  unfold Builtin.List.listTooLong
  exact decide_eq_false (by omega)
end

section
variable {X : Cx}

noncomputable def rAppend : V → List V → Hp → VK → Prop := fun x vs H Q => ∃ l xs y, x = .ref l ∧ vs = [y] ∧ H l = some (.lst xs) ∧ xs.length < sizeLine ∧ Q .non (upd H l (.lst (xs ++ [y])))
theorem mt_append : MtM X "list.append" rAppend := by
  intro pins s σ H x vs v us Q I rx rv h
  obtain ⟨l, xs, y, rfl, rfl, hH, hz, q⟩ := h
  cases rx
  obtain ⟨u, rfl, ru⟩ := rv.one
  obtain ⟨z, its, n, r, hl, e⟩ := I.lstM hH
  refine call_meets F.slot_list_append ⟨_, e, rfl⟩ F.entry_list_append (F.args_list_append_2 _ _) (PySem.list_append l its.toArray n u (by rw [List.size_toArray]; omega)) ⟨e, ?_⟩
  refine ⟨.non, _, I.lset (its' := its ++ [u]) hH e (by simp) (r.append (.cons ru .nil)) ?_, rfl, q⟩
  rw [List.length_append, List.length_singleton]
  omega

noncomputable def rExtend : V → List V → Hp → VK → Prop := fun x vs H Q => ∃ l b xs zs, x = .ref l ∧ vs = [.ref b] ∧ H l = some (.lst xs) ∧ H b = some (.lst zs) ∧ xs.length + zs.length ≤ sizeLine ∧ Q .non (upd H l (.lst (xs ++ zs)))
theorem mt_extend : MtM X "list.extend" rExtend := by
  intro pins s σ H x vs v us Q I rx rv h
  obtain ⟨l, b, xs, zs, rfl, rfl, hH, hB, hz, q⟩ := h
  cases rx
  obtain ⟨u, rfl, ru⟩ := rv.one
  cases ru
  obtain ⟨z, its, n, r, hl, e⟩ := I.lstM hH
  obtain ⟨z2, its2, n2, r2, hl2, e2⟩ := I.lstM hB
  have hsz : its.toArray.size + its2.toArray.size ≤ sizeLine := by rw [List.size_toArray, List.size_toArray]; omega
  have hlong : ¬ (!its.toArray.isEmpty && Builtin.List.listTooLong (its.toArray.size + its2.toArray.size)) = true := by
    rw [notLongL hsz, Bool.and_false]
    exact Bool.false_ne_true
  refine call_meets F.slot_list_extend ⟨_, e, rfl⟩ F.entry_list_extend (F.args_list_extend_2 _ _)
    (AutoSeq1.list_extend_list_list_0 l its.toArray n b its2.toArray n2 hlong (by rw [List.size_toArray]; omega) (by omega)) ⟨e, e2, ?_⟩
  refine ⟨.non, _, I.lset (its' := its ++ its2) hH e (by simp) (r.append r2) ?_, rfl, q⟩
  rw [List.length_append]
  omega

noncomputable def rCat : R2 := fun x y H Q => ∃ l b xs zs, x = .ref l ∧ y = .ref b ∧ H l = some (.lst xs) ∧ H b = some (.lst zs) ∧ xs.length + zs.length ≤ sizeLine ∧ ∀ p, H p = none → Q (.ref p) (upd H p (.lst (xs ++ zs)))
theorem op_cat : OpR X (binaryOp .Add) rCat := by
  intro pins s σ H x y v u Q I rx ry h
  obtain ⟨l, b, xs, zs, rfl, rfl, hH, hB, hz, q⟩ := h
  cases rx
  cases ry
  obtain ⟨z, its, n, r, hl, e⟩ := I.lstM hH
  obtain ⟨z2, its2, n2, r2, hl2, e2⟩ := I.lstM hB
  refine PySem.P.add_list e e2 ?_ (by rw [List.size_toArray, List.size_toArray]; omega)
  have ea : its.toArray ++ its2.toArray = (its ++ its2).toArray := by simp
  rw [ea]
  exact ⟨.ref _, _, I.lnew (t' := s.toks) (r.append r2) (by rw [List.length_append]; omega), rfl, q _ I.fresh⟩
noncomputable def rRep : R2 := fun x y H Q => ∃ l k xs, x = .ref l ∧ y = .int k ∧ H l = some (.lst xs) ∧ -(2 ^ 63) ≤ k ∧ k < 2 ^ 63 ∧ xs.length * k.toNat ≤ sizeLine ∧
  ∀ p, H p = none → Q (.ref p) (upd H p (.lst (List.replicate k.toNat xs).flatten))
theorem len_rep {α : Type} (xs : List α) (k : Nat) : (List.replicate k xs).flatten.length = k * xs.length := by
  induction k with
  | zero => simp
  | succ k ih => rw [List.replicate_succ, List.flatten_cons, List.length_append, ih, Nat.succ_mul, Nat.add_comm]
theorem op_rep : OpR X (binaryOp .Mult) rRep := by
  intro pins s σ H x y v u Q I rx ry h
  obtain ⟨l, k, xs, rfl, rfl, hH, h1, h2, hz, q⟩ := h
  cases rx
  obtain ⟨t, rfl⟩ := ry
  obtain ⟨z, its, n, r, hl, e⟩ := I.lstM hH
  have hlen : its.toArray.size * k.toNat ≤ sizeLine := by rw [List.size_toArray, ← hl]; exact hz
  have hcap : ¬ its.toArray.size * k.toNat > (2 ^ 63 - 1) / 8 := by
    have : (sizeLine : Nat) ≤ (2 ^ 63 - 1) / 8 := by decide
    omega
  have hfit : ¬ (!Builtin.List.listFitsIndex k) = true := by
    rw [fitsIndex_both h1 h2]
    exact Bool.false_ne_true
  have hlong : ¬ Builtin.List.listTooLong (its.toArray.size * k.toNat) = true := by
    rw [notLongL hlen]
    exact Bool.false_ne_true
  have hnew : List.foldl (fun x1 x2 => x1 ++ x2) #[] (List.replicate (if its.toArray.isEmpty = true then 0 else k.toNat) its.toArray) = (List.replicate k.toNat its).flatten.toArray := by
    have f0 : ∀ m : Nat, List.foldl (fun x1 x2 => x1 ++ x2) #[] (List.replicate m its.toArray) = (List.replicate m its).flatten.toArray := fun m => by
      have := foldl_rep its m []
      rw [List.nil_append] at this
      exact this
    rw [f0]
    cases its with
    | nil => simp
    | cons a r' => rw [if_neg (by simp)]
  refine wpAny_binaryOp_repeat_ref (T := "list") (U := "int") (by decide) ⟨_, e, rfl⟩ (fun s' => typeIs_int s' k t) noFill_list_mul F.fills_int_mul F.slot_int_rmul repeat_list F.slot_int_index.lookup
    (call_meets F.slot_int_rmul (typeIs_int s k t) F.entry_int_rmul (F.args_int_rmul_2 _ _) (int___rmul___int_list k t l its.toArray n)
      ⟨e, rfl, ⟨_, e, rfl⟩, call_meets F.slot_list_mul ⟨_, e, rfl⟩ F.entry_list_mul (F.args_list_mul_2 _ _) (AutoListH.list___mul___list_int_3 l its.toArray n k t hfit hcap hlong) ⟨e, ?_⟩⟩)
  rw [hnew]
  exact ⟨.ref _, _, I.lnew (t' := s.toks) (r.rep k.toNat) (by rw [len_rep, Nat.mul_comm]; exact hz), rfl, q _ I.fresh⟩

end

section
variable {prog : Program} {w : World} {A : Around} {E : Value → Shared → Prop} {s : Shared}
set_option maxRecDepth 100000 in
end

section
variable {X : Cx}
end
end L2

namespace Att
open PySem PySem.W PySem.Calls PyProof.Rows

theorem ints_of_wellAll {P : Params} {h : Heap} : ∀ (ns : List Int) (vs : List Value), WellAll P h vs (ns.map WData.int) → IntsAre vs ns := by
  intro ns
  induction ns with
  | nil =>
    intro vs w
    rw [List.map_nil] at w
    cases w
    exact .nil
  | cons n ns ih =>
    intro vs w
    rw [List.map_cons] at w
    cases w with
    | cons a b =>
      cases a
      exact .cons _ _ (ih _ b)

theorem script_of {l : OpenLaw} {n : Nat} (hn : l.most = some n) {P : Params} {h : Heap} {args : List WData} {vals : List Value}
    (hpre : l.row.toRowW.claim.pre args = true) (hwl : WellAll P h vals args) :
    ∃ a vs ns, vals = [Value.ref a] ∧ args = [WData.list (ns.map WData.int)] ∧ h.get? a = some { cls := .type "list", data := .seq vs.toArray } ∧ IntsAre vs ns ∧ ns.length ≤ n := by
  have hsh : WShape.hasAll [] args [.list .int] = true := (pre_splitW hpre).1
  have hc : l.pre.holds [] { args := args } = true := (pre_splitW hpre).2
  obtain ⟨d, r, rfl, h1, h2⟩ := hasAllW_cons hsh
  obtain rfl := hasAllW_nil h2
  obtain ⟨xs, rfl, h3⟩ := hasW_list h1
  obtain ⟨ns, rfl⟩ := items_int h3
  have hlen : ns.length ≤ n := by
    unfold OpenLaw.pre at hc
    have h4 : (WTm.not (.lt (.lit (.int (n : Int))) (.len (.arg 0)))).holds [] { args := [.list (ns.map .int)] } = true := by
      have h4 := (holds_andW hc).1
      rw [hn] at h4
      exact h4
    have h5 := condW_of h4 (w_not (w_lt w_lit (w_len_list (w_arg rfl))))
    rw [List.length_map] at h5
    refine Nat.le_of_not_lt fun q => ?_
    have q' : (n : Int) < ((ns.length : Nat) : Int) := by omega
    first
      | (rw [decide_eq_true q'] at h5; exact absurd h5 (by decide))
      | (simp at h5; omega)
  cases hwl with
  | cons w1 w2 =>
    cases w2
    cases w1 with
    | list ho hall => exact ⟨_, _, ns, rfl, rfl, ho, ints_of_wellAll ns _ hall, hlen⟩

theorem post_true (l : OpenLaw) (args : List WData) : l.row.toRowW.claim.post args (.bool true) args = true :=
  postW_of (r := l.row.toRowW) (X := (true == true))
    (show WShape.has [] (.bool true) .bool = true by first | rfl | decide | simp [WShape.has, WShape.arms, WShape.armsAll])
    (show (WTm.eq .res (.lit (.bool true))).value [] { args := args, res := some (.bool true), after := args } = some (.bool (true == true)) from w_eq_bool (w_res rfl) w_lit) rfl


theorem attach_call {l : OpenLaw} {n : Nat} {q : Program} {loose : List Str} {XP : (Str → Option Value) → Heap → Prop} {YP : World → Heap → Prop} {d : DefRec}
    (hn : l.most = some n) (hdf : d.params.defaults = [])
    (call : ∀ (w : World) (s₀ s₁ : Shared) (mg mb : Str → Option Value) (fa : Addr) (o : Obj) (pm cd doc : Value) (a : Addr) (vs : List Value) (ns : List Int),
      Ground q loose [] XP w s₀ mg mb s₁.heap → YP w s₁.heap →
      s₁.heap.get? fa = some o → o.data = .func (docDef d.name d.params d.body d.scope pm cd doc) → s₁.heap.CodeRec cd d.name → mg d.name = some (.ref fa) →
      s₁.heap.get? a = some { cls := .type "list", data := .seq vs.toArray } → IntsAre vs ns → ns.length ≤ n → s₁.gens = #[] →
      codeAny (model l.prog w) callerA (.call (.ref fa) ⟨[.ref a], []⟩) (fun r s' => r = .ok (.ret (.bool true)) ∧ OldK s₁.heap s'.heap ∧ s'.os = s₁.os ∧ AllBare s'.gens) s₁) :
    WalkO q loose XP YP l.row.toRowW d [] (fun f vs => PySem.call f vs) := by
  intro w s₀ s₁ mg mb G Y fa o pm cd doc dV kV ho hd hcd hD hmg hg args vals as hpre hlay hrd hwl hlo
  obtain rfl : dV = .none := Dflts.none hD hdf
  obtain rfl : kV = .none := Dflts.noKw hD
  obtain ⟨a, vs, ns, rfl, rfl, hobj, hints, hlen⟩ := script_of hn hpre hwl
  refine enter_call (codeAny_mono (call w s₀ s₁ mg mb fa o pm cd doc a vs ns G Y ho (fd_plain hd) hcd hmg hobj hints hlen hg) fun r s' hq => ?_)
  obtain ⟨rfl, h2, h3, h4⟩ := hq
  exact ⟨.inl ⟨.bool true, .bool true, [], rfl, fun _ => rfl, .bool true, post_true l _, fun _ => ⟨List.Pairwise.nil, fun _ hm => (nomatch hm)⟩⟩, h2, h3, h4⟩

section
variable {prog : Program} {w : World} {A : Around} {E : Value → Shared → Prop} {s : Shared} {K : Frag}

noncomputable def ledger (h : Heap) (L d : Addr) : List (Addr × Obj) := (List.range h.objs.size).filterMap fun a => if a = L ∨ a = d then none else (h.get? a).map fun o => (a, o)

end
end Att

namespace L2
open PySem PySem.Spec PyProof.Rows

theorem vals_ints : ∀ {vs : List Value} {ns : List Int}, IntsAre vs ns → Vals (ns.map V.int) vs
  | _, _, .nil => .nil
  | _, _, .cons n t h => .cons ⟨t, rfl⟩ (vals_ints h)

noncomputable def Only (H : Hp) : Prop := ∀ b, H b = none ∨ ∃ o xs, H b = some (.frz o (.lst xs))

theorem law_call {P : Program} {w : World} {K : PySem.W.Frag} {mg mb : Str → Option Value} {CX : CXT} {k : Nat} {fa a : Addr} {fd : FuncData} {x : Str} {sp : Sp} {s₁ : Shared} {vs : List Value} {ns : List Int}
    (KX : K.In s₁.heap) (hns : s₁.heap.Ns mainGlobals mg) (hb : s₁.heap.Ns builtinsNs mb) (hbb : ∀ x : Str, x ≠ "__name__" → mb x = bootBuiltins x) (hlim : s₁.heap.NoLimit) (hg : s₁.gens = #[])
    (ha : s₁.heap.get? a = some { cls := .type "list", data := .seq vs.toArray }) (hi : IntsAre vs ns) (hl : ns.length ≤ sizeLine) (hr : Room k callerA)
    (F : ∀ base : Heap, K.In base → base.Ns mainGlobals mg → FnOk P w K mg base CX k fa fd [x] sp) (hbind : ∀ (s : Shared) (u : Value), BindsTo s fd ⟨[u], []⟩ [(x, u)])
    (hsp : ∀ H : Hp, Only H → SqL K H a (ns.map V.int) → sp [.ref a] H (fun v _ => v = .bl true) fun _ _ _ => False)
    (hCX : ∀ H e s', CX [] H s₁ (fun _ _ _ => False) e s' → False) :
    codeAny (model P w) callerA (.call (.ref fa) ⟨[.ref a], []⟩) (fun r s' => r = .ok (.ret (.bool true)) ∧ OldK s₁.heap s'.heap ∧ s'.os = s₁.os ∧ AllBare s'.gens) s₁ := by
  have rv := vals_ints hi
  have lenV := hi.length
  -- from an abstract heap in which nothing but the script may be tracked
  have core : ∀ H : Hp, Only H → SqL K H a (ns.map V.int) → HOk P w H s₁.heap → (∀ b, H b ≠ none → b = a) → (H a ≠ none → K.lookup a = none) →
      codeAny (model P w) callerA (.call (.ref fa) ⟨[.ref a], []⟩) (fun r s' => r = .ok (.ret (.bool true)) ∧ OldK s₁.heap s'.heap ∧ s'.os = s₁.os ∧ AllBare s'.gens) s₁ := by
    intro H hO hS hok hA hK
    have base_of : ∀ {b : Addr} {o : Obj}, s₁.heap.get? b = some o → H b = none → (hidT s₁.heap H).get? b = some o := fun e n => hidT_get e n
    have noA : ∀ {b : Addr} {o : Obj} {es : Array DictEntry} {ep : Nat}, s₁.heap.get? b = some o → o.data = .dict es ep → H b = none := fun {b o es ep} e d => by
      cases q : H b with
      | none => rfl
      | some u =>
        have e' : b = a := hA b (by rw [q]; simp)
        subst e'
        rw [ha] at e; cases e
        have d' : Data.seq vs.toArray _ = Data.dict es ep := d
        cases d'
    have nsK : ∀ {b : Addr} {m : Str → Option Value}, s₁.heap.Ns b m → (hidT s₁.heap H).Ns b m := fun {b m} ⟨o, es, ep, e, d, r⟩ => ⟨o, es, ep, base_of e (noA e d), d, r⟩
    have hKb : K.In (hidT s₁.heap H) := fun b o e => base_of (KX b o e) (by
      cases q : H b with
      | none => rfl
      | some u =>
        have e' : b = a := hA b (by rw [q]; simp)
        subst e'
        rw [hK (by rw [q]; simp)] at e; cases e)
    have hM : Mod K mg (hidT s₁.heap H) := ⟨hKb, nsK hns, ⟨mb, nsK hb, hbb⟩, let ⟨mc, h1, h2⟩ := hlim; ⟨mc, nsK h1, h2⟩⟩
    have e0 : Env0 P w K mg (hidT s₁.heap H) callerA [] s₁ H := ⟨rfl, hM, fun b o e => of_hidT e, Nat.le_of_eq (hidT_size _ _), trivial, fun b hb => absurd (show b ∈ ([] : List Addr) from hb) (by simp), hok, .of_eq hg⟩
    refine codeAny_mono ((F _ hKb (nsK hns)).run callerA [] s₁ H ⟨[.ref a], []⟩ [.ref a] [.ref a] _ _ hr e0 (hbind s₁ (.ref a)) (.cons rfl .nil) (hsp H hO hS)) fun r s' h => ?_
    cases r with
    | error e => exact (hCX H e s' h).elim
    | ok fl =>
      cases fl with
      | next => exact False.elim h
      | brk => exact False.elim h
      | cont => exact False.elim h
      | ret u =>
        obtain ⟨v, H', os, bare, un, hok', r', q⟩ := h
        have q' : v = .bl true := q
        subst q'
        obtain rfl : u = Value.bool true := r'
        refine ⟨rfl, OldK.of_keep fun b o e => ?_, os, bare⟩
        cases q : H b with
        | none => exact un.keep b o e q (by intro z; exact absurd (show b ∈ ([] : List Addr) from z) (by simp)) (by simp)
        | some u =>
          rcases hO b with z | ⟨ob, xs, z⟩
          · rw [q] at z; cases z
          · have z2 := un.frzs b ob _ z
            obtain ⟨e1, _⟩ := hok b _ z
            obtain ⟨e2, _⟩ := hok' b _ z2
            rw [e] at e1; cases e1
            exact e2
  cases hk : K.lookup a with
  | some o =>
    -- the script is one of the module's own objects
    have e := KX a o hk
    rw [ha] at e
    cases e
    refine core (fun _ => none) (fun _ => .inl rfl) (.inr ⟨_, vs.toArray, _, hk, rfl, rfl, rfl, by rw [List.size_toArray, lenV]; exact hl, by simpa using rv⟩) (fun b u z => by have z' : (none : Option HO) = some u := z; cases z') (fun b z => absurd rfl z) fun z => absurd rfl z
  | none =>
    refine core (fun b => if b = a then some (.frz { cls := .type "list", data := .seq vs.toArray } (.lst (ns.map V.int))) else none) (fun b => ?_) (.inl (.inr ⟨{ cls := .type "list", data := .seq vs.toArray }, if_pos rfl⟩)) (fun b u z => ?_) (fun b z => ?_) fun _ => hk
    · by_cases hb : b = a
      · exact .inr ⟨_, _, if_pos hb⟩
      · exact .inl (if_neg hb)
    · by_cases hb : b = a
      · have z' := (if_pos hb).symm.trans z
        cases z'
        subst hb
        exact ⟨ha, by rw [List.length_map]; exact hl, vs, _, rv, ha⟩
      · have z' := (if_neg hb).symm.trans z
        cases z'
    · by_cases hb : b = a
      · exact hb
      · exact absurd (if_neg hb) z
end L2

namespace L2
open PySem PySem.Spec PyProof.Rows

theorem walk_of {l : PySem.W.OpenLaw} {n k : Nat} {q : Program} {loose : List Str} {XP : (Str → Option Value) → Heap → Prop} {YP : World → Heap → Prop} {d : DefRec} {K : Params → PySem.W.Frag} {CX : World → CXT} {sp : World → Sp} {x : Str}
    (hn : l.most = some n) (hn2 : n ≤ sizeLine) (hdf : d.params.defaults = []) (hr : Room k callerA)
    (hY : ∀ (w : World) (h : Heap), YP w h → (K w.params).In h)
    (F : ∀ (w : World) (mg : Str → Option Value) (fa : Addr) (h : Heap), (K w.params).In h → h.Ns mainGlobals mg → mg d.name = some (.ref fa) →
      ∃ fd : FuncData, (∀ (s : Shared) (u : Value), BindsTo s fd ⟨[u], []⟩ [(x, u)]) ∧
        ∀ base : Heap, (K w.params).In base → base.Ns mainGlobals mg → FnOk l.prog w (K w.params) mg base (CX w) k fa fd [x] (sp w))
    (hsp : ∀ (w : World) (H : Hp) (a : Addr) (ns : List Int), ns.length ≤ n → Only H → SqL (K w.params) H a (ns.map V.int) → sp w [.ref a] H (fun v _ => v = .bl true) fun _ _ _ => False)
    (hCX : ∀ (w : World) (H : Hp) (s : Shared) (e : Value) (s' : Shared), CX w [] H s (fun _ _ _ => False) e s' → False) :
    PySem.W.WalkO q loose XP YP l.row.toRowW d [] (fun f vs => PySem.call f vs) := by
  refine Att.attach_call hn hdf fun w s₀ s₁ mg mb fa o pm cd doc a vs ns G Y ho hd hcd hmg hobj hints hlen hg => ?_
  have KX := hY w _ Y
  obtain ⟨fd, hb, hF⟩ := F w mg fa _ KX G.T.g hmg
  exact law_call KX G.T.g G.T.b G.T.builtins G.T.nolimit hg hobj hints (Nat.le_trans hlen hn2) hr hF hb (fun H hO hS => hsp w H a ns hlen hO hS) fun H e s' => hCX w H s₁ e s'
end L2

/- THE LAST THEOREM (shape; LID, My.* are yours):
   My.Adr: a structure of the addresses that your layer names (classes, functions); My.Txt K t: a structure (Prop) of the equations over K;
   My.txt_mk : {K} {implicit addresses ..} (e1 : nsIn K mainGlobals "law" = some (some (.ref f))) (e2 : K.lookup f = some ⟨oc, od, .func (fnOf "law" "law" params body scope dV kV doc pm an cdv ct), sl⟩) (e3 : codeIn K cdv "law" = true) .. : ∃ t, My.Txt K t

set_option maxRecDepth 100000 in
set_option maxHeartbeats 0 in
(the tactic k_is has no namespace: write k_is) -/

namespace L2
open PySem PySem.Spec PyProof.Rows

noncomputable def defArgs (s : Stmt) : Arguments := match s with
  | .FunctionDef _ a _ _ _ _ _ _ _ _ => a
  | _ => { posonlyargs := [], args := [], vararg := none, kwonlyargs := [], kw_defaults := [], kwarg := none, defaults := [] }
noncomputable def defBody (s : Stmt) : List Stmt := match s with
  | .FunctionDef _ _ b _ _ _ _ _ _ _ => b
  | _ => []
noncomputable def defScope (s : Stmt) : Scope := match s with
  | .FunctionDef _ _ _ _ _ _ sc _ _ _ => sc
  | _ => { kind := .function, names := [], isGenerator := false, isCoroutine := false }

noncomputable abbrev CX0 : CXT := fun _ _ _ _ _ _ => False
noncomputable abbrev E0 : XK := fun _ _ _ => False
theorem pass0 {X : Cx} : Passes CX0 X E0 := fun _ _ _ _ _ _ _ h => h.elim

structure Fun (K : PySem.W.Frag) (x qual : Str) (st : Stmt) (f : Addr) (fd : FuncData) : Prop where
  ex : ∃ (oc : Value) (od : Option Addr) (kV doc pm : Value) (an : Option Addr) (cdv ct : Value) (osl : Array (Option Value)),
    fd = PySem.W.fnOf x qual (defArgs st) (defBody st) (defScope st) .none kV doc pm an cdv ct ∧ K.lookup f = some ⟨oc, od, .func fd, osl⟩ ∧ PySem.W.codeIn K cdv qual = true
  kp : PySem.W.keepIn K (.ref f) = true
section
variable {P : Program} {w : World} {K : PySem.W.Frag} {mg : Str → Option Value} {base : Heap}
theorem Fun.ok {x qual : Str} {st : Stmt} {f : Addr} {fd : FuncData} {N ps : List Str} {k : Nat} {sp : Sp} (F : Fun K x qual st f fd) (S : FnScope N ps (defScope st)) (len : ∀ vs H Q E, sp vs H Q E → vs.length = ps.length)
    (hbody : ∀ (cdv : Value) (A : Around) (outer : List Env) (s : Shared) (H : Hp) (vs : List V) (Q : VK) (E : XK), Room k (A.deeper (envOfC qual (defScope st) s.heap.objs.size f cdv)) → sp vs H Q E →
      ∃ t, PSs (cxOf CX0 P w K mg base N qual (defScope st) f cdv A outer s H E).nox (defBody st) t ∧ t { nx := fun _ H' => Q .non H', rt := Q } (start N vs) H) : FnOk P w K mg base CX0 (k + 1) f fd ps sp := by
  obtain ⟨oc, od, kV, doc, pm, an, cdv, ct, osl, rfl, lk, hcd⟩ := F.ex
  refine fn_of lk hcd S len fun A outer s H vs Q E hr hsp => ?_
  obtain ⟨t, h, q⟩ := hbody cdv A outer s H vs Q E hr hsp
  exact ⟨t, h.nox, q⟩
theorem Fun.binds {x qual : Str} {st : Stmt} {f : Addr} {fd : FuncData} {ps : List Str} (F : Fun K x qual st f fd)
    (h : ∀ (kV doc pm : Value) (an : Option Addr) (cdv ct : Value) (us : List Value), us.length = ps.length → bindArgs (PySem.W.fnOf x qual (defArgs st) (defBody st) (defScope st) .none kV doc pm an cdv ct) ⟨us, []⟩ = pure (ps.zip us)) : Binds K fd ps [] := by
  obtain ⟨oc, od, kV, doc, pm, an, cdv, ct, osl, rfl, lk, hcd⟩ := F.ex
  exact .all (h kV doc pm an cdv ct)
theorem fun_mk {x qual : Str} {st : Stmt} {f : Addr} {oc : Value} {od an : Option Addr} {osl : Array (Option Value)} {kV doc pm cdv ct : Value} (l : K.lookup f = some ⟨oc, od, .func (PySem.W.fnOf x qual (defArgs st) (defBody st) (defScope st) .none kV doc pm an cdv ct), osl⟩)
    (c : PySem.W.codeIn K cdv qual = true) (k : PySem.W.keepIn K (.ref f) = true) : Fun K x qual st f (PySem.W.fnOf x qual (defArgs st) (defBody st) (defScope st) .none kV doc pm an cdv ct) := ⟨⟨oc, od, kV, doc, pm, an, cdv, ct, osl, rfl, l, c⟩, k⟩
end

section
variable {X : Cx}
theorem pv (i : Nat) {x : Str} {pos : Pos} (hN : X.N[i]? = some x := by rfl) (hv : Vis X.env.scope x := by first | exact Or.inl rfl | exact Or.inr (Or.inl rfl) | exact Or.inr (Or.inr rfl)) (hd : (x == ("__debug__" : Str)) = false := by decide)
    (hcd : (x == ("__classdict__" : Str)) = false := by decide) : PE X (.Name x pos) (tVar i) := pe_var hN hv hd hcd
end

theorem iteF {A B : Prop} (h : B) : if false = true then A else B := by
  rw [if_neg Bool.false_ne_true]
  exact h
theorem iteT {A B : Prop} (h : A) : if true = true then A else B := by
  rw [if_pos rfl]
  exact h

noncomputable def Same (H H' : Hp) : Prop := ∀ b o, H b = some o → H' b = some o
theorem Same.refl (H : Hp) : Same H H := fun _ _ h => h
theorem Same.trans {H H1 H2 : Hp} (a : Same H H1) (b : Same H1 H2) : Same H H2 := fun c o h => b c o (a c o h)
theorem Same.free {H H' : Hp} (e : Same H H') {l : Addr} (h : H' l = Option.none) : H l = Option.none := by
  cases q : H l with
  | none => rfl
  | some o =>
    rw [e l o q] at h
    cases h
theorem Same.seq {K : PySem.W.Frag} {H H' : Hp} {a : Addr} {xs : List V} (e : Same H H') (h : SqL K H a xs) : SqL K H' a xs := by
  rcases h with (h | ⟨o, h⟩) | h
  · exact .inl (.inl (e _ _ h))
  · exact .inl (.inr ⟨o, e _ _ h⟩)
  · exact .inr h

end L2

end
section
set_option Elab.async false
set_option linter.all false
set_option maxRecDepth 100000
namespace L2
open PySem PySem.Spec PyProof.Rows

section
variable {κ : Type} [DecidableEq κ]
noncomputable def valV (kvs : List (κ × V)) (k : κ) : Option V := (kvs.find? fun kv => decide (kv.1 = k)).map (·.2)
noncomputable def putK (kvs : List (κ × V)) (k : κ) (v : V) : List (κ × V) :=
  if (kvs.any fun kv => decide (kv.1 = k)) = true then kvs.map (fun kv => if kv.1 = k then (kv.1, v) else kv) else kvs ++ [(k, v)]
noncomputable def dropK (kvs : List (κ × V)) (k : κ) : List (κ × V) := kvs.filter fun kv => decide (kv.1 ≠ k)

theorem valV_pos {p : κ × V} {r : List (κ × V)} {k : κ} (e : p.1 = k) : valV (p :: r) k = some p.2 := by simp [valV, List.find?_cons, e]
theorem valV_neg {p : κ × V} {r : List (κ × V)} {k : κ} (e : ¬ p.1 = k) : valV (p :: r) k = valV r k := by simp [valV, List.find?_cons, e]
theorem valV_any (k : κ) : ∀ kvs : List (κ × V), (kvs.any fun kv => decide (kv.1 = k)) = (valV kvs k).isSome
  | [] => rfl
  | p :: r => by
    rw [List.any_cons]
    by_cases e : p.1 = k
    · simp only [valV_pos e, decide_eq_true e, Bool.true_or, Option.isSome_some]
    · rw [valV_neg e, decide_eq_false e, Bool.false_or]; exact valV_any k r

theorem RelO.isSome_eq {o : Option V} {u : Option Value} (r : RelO o u) : o.isSome = u.isSome := by
  cases o with
  | none => cases u with
    | none => rfl
    | some _ => exact (show False from r).elim
  | some _ => cases u with
    | none => exact (show False from r).elim
    | some _ => rfl
theorem RelO.getD {o : Option V} {u : Option Value} {d : V} {d' : Value} (r : RelO o u) (rd : RelV d d') : RelV (o.getD d) (u.getD d') := by
  cases o with
  | none => cases u with
    | none => exact rd
    | some _ => exact (show False from r).elim
  | some _ => cases u with
    | none => exact (show False from r).elim
    | some _ => exact r

theorem KV.val {kvs : List (κ × V)} {vs : List (κ × Value)} (r : KV kvs vs) (k : κ) : RelO (valV kvs k) (valueAt vs k) := by
  unfold KV at r
  induction r with
  | nil => exact True.intro
  | @cons p q ps qs h t ih =>
    obtain ⟨h1, h2⟩ := h
    by_cases e : p.1 = k
    · have e' : q.1 = k := h1.symm.trans e
      have b : valueAt (q :: qs) k = some q.2 := by simp [valueAt, List.find?_cons, e']
      rw [valV_pos e, b]; exact h2
    · have e' : ¬ q.1 = k := fun z => e (h1.trans z)
      have b : valueAt (q :: qs) k = valueAt qs k := by simp [valueAt, List.find?_cons, e']
      rw [valV_neg e, b]; exact ih
theorem KV.any {kvs : List (κ × V)} {vs : List (κ × Value)} (r : KV kvs vs) (k : κ) : (kvs.any fun kv => decide (kv.1 = k)) = vs.any fun kv => decide (kv.1 = k) := by
  unfold KV at r
  induction r with
  | nil => rfl
  | cons h t ih => rw [List.any_cons, List.any_cons, ih, h.1]
theorem KV.repl {kvs : List (κ × V)} {vs : List (κ × Value)} (r : KV kvs vs) (k : κ) {y : V} {u : Value} (ry : RelV y u) :
    KV (kvs.map fun kv => if kv.1 = k then (kv.1, y) else kv) (vs.map fun kv => if kv.1 = k then (kv.1, u) else kv) := by
  unfold KV at r ⊢
  induction r with
  | nil => exact .nil
  | @cons p q ps qs h t ih =>
    rw [List.map_cons, List.map_cons]
    refine .cons ?_ ih
    obtain ⟨h1, h2⟩ := h
    by_cases e : p.1 = k
    · rw [if_pos e, if_pos (h1.symm.trans e)]; exact ⟨h1, ry⟩
    · rw [if_neg e, if_neg (fun z => e (h1.trans z))]; exact ⟨h1, h2⟩
theorem KV.put {kvs : List (κ × V)} {vs : List (κ × Value)} (r : KV kvs vs) (k : κ) {y : V} {u : Value} (ry : RelV y u) : KV (putK kvs k y) (stored vs k u) := by
  unfold putK stored
  rw [r.any k]
  by_cases e : (vs.any fun kv => decide (kv.1 = k)) = true
  · rw [if_pos e, if_pos e]; exact r.repl k ry
  · rw [if_neg e, if_neg e]; exact Paired.snoc r ⟨rfl, ry⟩
theorem KV.drop {kvs : List (κ × V)} {vs : List (κ × Value)} (r : KV kvs vs) (k : κ) : KV (dropK kvs k) (without vs k) := by
  unfold KV at r ⊢
  unfold dropK without
  induction r with
  | nil => exact .nil
  | @cons p q ps qs h t ih =>
    obtain ⟨h1, h2⟩ := h
    rw [List.filter_cons, List.filter_cons]
    by_cases e : p.1 = k
    · have a : ¬ decide (p.1 ≠ k) = true := by simp [e]
      have b : ¬ decide (q.1 ≠ k) = true := by simp [h1.symm.trans e]
      rw [if_neg a, if_neg b]; exact ih
    · have e' : ¬ q.1 = k := fun z => e (h1.trans z)
      have a : decide (p.1 ≠ k) = true := by simp [e]
      have b : decide (q.1 ≠ k) = true := by simp [e']
      rw [if_pos a, if_pos b]; exact .cons ⟨h1, h2⟩ ih
theorem KV.keys {kvs : List (κ × V)} {vs : List (κ × Value)} (r : KV kvs vs) : kvs.map (·.1) = vs.map (·.1) := by
  unfold KV at r
  induction r with
  | nil => rfl
  | cons h t ih => rw [List.map_cons, List.map_cons, ih, h.1]
theorem KV.length {kvs : List (κ × V)} {vs : List (κ × Value)} (r : KV kvs vs) : kvs.length = vs.length := Paired.length r
end


noncomputable abbrev KT (H : Hp) : List (List Key × V) → List (List Key × Addr × Value) → Prop := Paired fun p q => p.1 = q.1 ∧ H q.2.1 = some (.tup (p.1.map kV)) ∧ RelV p.2 q.2.2
theorem KT.val {H : Hp} {kvs : List (List Key × V)} {xs : List (List Key × Addr × Value)} (r : KT H kvs xs) (k : List Key) : RelO (valV kvs k) ((atKey xs k).map (·.2)) := by
  induction r with
  | nil => exact True.intro
  | @cons p q ps qs h t ih =>
    obtain ⟨h1, _, h2⟩ := h
    by_cases e : p.1 = k
    · have e' : q.1 = k := h1.symm.trans e
      have b : atKey (q :: qs) k = some q.2 := by simp [atKey, List.find?_cons, e']
      rw [valV_pos e, b]; exact h2
    · have e' : ¬ q.1 = k := fun z => e (h1.trans z)
      have b : atKey (q :: qs) k = atKey qs k := by simp [atKey, List.find?_cons, e']
      rw [valV_neg e, b]; exact ih
theorem KT.repl {H : Hp} {kvs : List (List Key × V)} {xs : List (List Key × Addr × Value)} (r : KT H kvs xs) (k : List Key) {y : V} {u : Value} (ry : RelV y u) :
    KT H (kvs.map fun kv => if kv.1 = k then (kv.1, y) else kv) (xs.map (putAt k u)) := by
  induction r with
  | nil => exact .nil
  | @cons p q ps qs h t ih =>
    rw [List.map_cons, List.map_cons]
    refine .cons ?_ ih
    obtain ⟨h1, h2, h3⟩ := h
    unfold putAt
    by_cases e : p.1 = k
    · rw [if_pos e, if_pos (h1.symm.trans e)]; exact ⟨h1, h2, ry⟩
    · rw [if_neg e, if_neg (fun z => e (h1.trans z))]; exact ⟨h1, h2, h3⟩
theorem KT.put {H : Hp} {kvs : List (List Key × V)} {xs : List (List Key × Addr × Value)} (r : KT H kvs xs) (k : List Key) {b : Addr} {y : V} {u : Value} (hb : H b = some (.tup (k.map kV))) (ry : RelV y u) :
    KT H (putK kvs k y) (storedH xs k b u) := by
  have e : (kvs.any fun kv => decide (kv.1 = k)) = (atKey xs k).isSome := by
    rw [valV_any, (r.val k).isSome_eq, Option.isSome_map]
  unfold putK storedH
  rw [e]
  by_cases q : (atKey xs k).isSome = true
  · rw [if_pos q, if_pos q]; exact r.repl k ry
  · rw [if_neg q, if_neg q]; exact Paired.snoc r ⟨rfl, hb, ry⟩
theorem KT.keeps {H H' : Hp} {kvs : List (List Key × V)} {xs : List (List Key × Addr × Value)} (r : KT H kvs xs) (ht : ∀ b ys, H b = some (.tup ys) → H' b = some (.tup ys)) : KT H' kvs xs :=
  Paired.mapP r fun _ _ z => ⟨z.1, ht _ _ z.2.1, z.2.2⟩

section
variable {P : Program} {w : World} {H : Hp} {h : Heap} {a : Addr}
theorem rd_of {u : HO} (ok : HOk P w H h) (e : Rd H a u) : ObjOk P w H h a u := e.ok ok
theorem dk_rd {kvs : List (Key × V)} (ok : HOk P w H h) (e : Rd H a (.dK kvs)) : kvs.length ≤ sizeLine ∧ (a == sysModules) = false ∧ ∃ vs, KV kvs vs ∧ h.DictOf (mixKind P w) a vs :=
  show ObjOk P w H h a (.dK kvs) from rd_of ok e
end

noncomputable def DGet (H : Hp) (a : Addr) (y : V) (r : Option V) : Prop :=
  (∃ kvs k, Rd H a (.dK kvs) ∧ y = kV k ∧ r = valV kvs k) ∨ ∃ kvs k b, Rd H a (.dT kvs) ∧ y = .ref b ∧ H b = some (.tup (k.map kV)) ∧ r = valV kvs k
noncomputable def DPut (H : Hp) (a : Addr) (y v : V) (H' : Hp) : Prop :=
  (∃ kvs k, H a = some (.dK kvs) ∧ y = kV k ∧ kvs.length < sizeLine ∧ H' = upd H a (.dK (putK kvs k v))) ∨
  ∃ kvs k b, H a = some (.dT kvs) ∧ y = .ref b ∧ H b = some (.tup (k.map kV)) ∧ kvs.length < sizeLine ∧ H' = upd H a (.dT (putK kvs k v))
theorem DGet.k {H : Hp} {a : Addr} {kvs : List (Key × V)} {k : Key} (e : H a = some (.dK kvs)) : DGet H a (kV k) (valV kvs k) := .inl ⟨kvs, k, .inl e, rfl, rfl⟩
theorem DGet.t {H : Hp} {a b : Addr} {kvs : List (List Key × V)} {k : List Key} (e : H a = some (.dT kvs)) (eb : H b = some (.tup (k.map kV))) : DGet H a (.ref b) (valV kvs k) := .inr ⟨kvs, k, b, .inl e, rfl, eb, rfl⟩
theorem DPut.k {H : Hp} {a : Addr} {kvs : List (Key × V)} {k : Key} {v : V} (e : H a = some (.dK kvs)) (hl : kvs.length < sizeLine) : DPut H a (kV k) v (upd H a (.dK (putK kvs k v))) := .inl ⟨kvs, k, e, rfl, hl, rfl⟩
theorem DPut.t {H : Hp} {a b : Addr} {kvs : List (List Key × V)} {k : List Key} {v : V} (e : H a = some (.dT kvs)) (eb : H b = some (.tup (k.map kV))) (hl : kvs.length < sizeLine) :
    DPut H a (.ref b) v (upd H a (.dT (putK kvs k v))) := .inr ⟨kvs, k, b, e, rfl, eb, hl, rfl⟩

section
variable {X : Cx} {pins : List (Addr × Obj)} {σ : St} {H : Hp} {s : Shared} {a : Addr} {y v : V} {u r : Value} {o : Option V} {A : Around} {E : Value → Shared → Prop}

end

section
variable {X : Cx} {pins : List (Addr × Obj)} {σ : St} {H : Hp} {s : Shared} {a : Addr} {kvs : List (Key × V)} {k : Key} {u : Value} {A : Around} {E : Value → Shared → Prop}
end


section
variable {X : Cx} {o i e value : Expr} {pos pos' tpos : Pos} {td ty tv : TE}
end

section
variable {X : Cx} {pos : Pos}
end

structure M1 (X : Cx) (o : Expr) (m : Str) (apos : Pos) (e : Expr) (cpos : Pos) : Prop where
  base : attributeBase o m X.env (eval o X.env) = eval o X.env
  few : ((backTo cpos (starEach [e] X.env)).all (fun x => !x.1) && (backToKw cpos (keywordEach [] X.env)).all (fun x => x.1.isSome)
    && decide (([e] : List Expr).length + ([] : List Keyword).length + (if ([] : List Keyword).isEmpty then 0 else 1) < 30)) = true
  line : (apos.endLine == cpos.line) = true
  trees : backTo cpos (starEach [e] X.env) = [(false, eval e X.env)]
structure M2 (X : Cx) (o : Expr) (m : Str) (apos : Pos) (e f : Expr) (cpos : Pos) : Prop where
  base : attributeBase o m X.env (eval o X.env) = eval o X.env
  few : ((backTo cpos (starEach [e, f] X.env)).all (fun x => !x.1) && (backToKw cpos (keywordEach [] X.env)).all (fun x => x.1.isSome)
    && decide (([e, f] : List Expr).length + ([] : List Keyword).length + (if ([] : List Keyword).isEmpty then 0 else 1) < 30)) = true
  line : (apos.endLine == cpos.line) = true
  trees : backTo cpos (starEach [e, f] X.env) = [(false, eval e X.env), (false, eval f X.env)]

section
variable {X : Cx} {pins : List (Addr × Obj)} {σ : St} {H : Hp} {s : Shared} {a : Addr} {y d : V} {u r : Value} {o : Option V} {A : Around} {E : Value → Shared → Prop}
end

section
variable {X : Cx} {o e f : Expr} {apos cpos : Pos} {td ty tx : TE}
end

section
variable {X : Cx} {pins : List (Addr × Obj)} {σ : St} {H : Hp} {s : Shared} {a : Addr} {kvs : List (Key × V)} {A : Around} {E : Value → Shared → Prop}
end

section
variable {X : Cx} {pins : List (Addr × Obj)} {σ : St} {H : Hp} {s : Shared} {a : Addr} {y : V} {u : Value} {A : Around} {E : Value → Shared → Prop}
end
end L2
namespace L2
open PySem PySem.Spec PyProof.Rows
section
variable {X : Cx}
end

section
variable {κ : Type} [DecidableEq κ]
end
end L2

end
section
set_option Elab.async false
set_option linter.all false
set_option maxRecDepth 100000
set_option maxHeartbeats 4000000
namespace BX
open PySem PySem.Spec L2
open PyProof.Rows hiding St

noncomputable abbrev NoX : Value → Shared → Prop := fun _ _ => False

noncomputable def testsOf (ts : List Expr) (en : Env) : Sem Bool :=
  forIn ts true fun c r => if r = true then do let ok ← isTrue c en (eval c en); pure (ForInStep.yield ok) else pure (ForInStep.yield r)

section
variable {prog : Program} {w : World} {A : Around} {s : Shared} {R : Result → Shared → Prop}
theorem comp_loop {el tg src : Expr} {ts : List Expr} {sc : Scope} {ps : Pos} {it acc : Value} {en : Env} (J : Nat → Shared → Prop)
    (turn : ∀ n s, J n s → wpAny (model prog w) A (pyNext it) (fun r s1 => match r with
      | none => R (.ok .next) s1
      | some v => wpAny (model prog w) A (letOwnedTupleGo tg it v) (fun _ sg => wpAny (model prog w) A (assign tg en v) (fun _ s2 =>
          wpAny (model prog w) A (testsOf ts en) (fun ok s3 =>
            if ok = true then wpAny (model prog w) A (eval el en) (fun y s4 =>
              wpAny (model prog w) A (call (.builtin "list.append") [acc, y]) (fun _ s5 => ∃ m, m < n ∧ J m s5) NoX s4) NoX s3
            else ∃ m, m < n ∧ J m s3) NoX s2) NoX sg) NoX s1) NoX s)
    (n : Nat) (h : J n s) :
    codeAny (model prog w) A (.compLoop (.ListComp el [⟨tg, src, ts, 0⟩] sc ps) 0 it acc en) R s := by
  refine codeAny_loop rfl J (fun n s hJ => ?_) n h
  show wpAny _ A
    ((compTurn (.ListComp el [⟨tg, src, ts, 0⟩] sc ps) 0 it acc en).onRaise
      (fun x => do noteFrame x en; theTreesLotGoes x)) _ _ s
  refine wpAny_noted ?_
  rw [compTurn_list]
  have no : ∀ {E : Value → Shared → Prop} (e : Value) (s' : Shared), NoX e s' → E e s' := fun _ _ z => z.elim
  refine wpAny_bind (wpAny_standAt (wpAny_bind (wpAny_mono (turn n s hJ) (fun r s1 h1 => ?_) no)))
  cases r with
  | none => exact wpAny_pure h1
  | some v =>
    refine wpAny_bind (wpAny_mono h1 (fun _ sg hg => ?_) no)
    refine wpAny_bind (wpAny_mono hg (fun _ s2 h2 => ?_) no)
    refine wpAny_bind (wpAny_mono h2 (fun ok s3 h3 => ?_) no)
    cases ok with
    | false => exact wpAny_pure ⟨rfl, h3⟩
    | true =>
      refine wpAny_bind (wpAny_bind (wpAny_mono h3 (fun y s4 h4 => ?_) no))
      exact wpAny_bind (wpAny_mono h4 (fun _ s5 h5 => wpAny_pure (wpAny_pure ⟨rfl, h5⟩)) no)
end

noncomputable def closL (en : Env) : List (Str × NameKind) → List (Str × Addr) → List (Str × Addr)
  | [], cs => cs
  | (n, k) :: r, cs => closL en r (if k == .free then (n, (en.cells.lookup n).getD 0) :: cs else cs)
theorem clos_eq (sc : Scope) (en : Env) (h : ∀ x ∈ sc.names, x.2 = .free → ∃ c, en.cells.lookup x.1 = some c) : closureFor sc en = pure (closL en sc.names []) := by
  have go : ∀ (l : List (Str × NameKind)) (cs : List (Str × Addr)), (∀ x ∈ l, x.2 = .free → ∃ c, en.cells.lookup x.1 = some c) →
      (forIn l cs (fun (x : Str × NameKind) (r : List (Str × Addr)) => (do
        if x.2 == .free then do
          let c ← cellOf en x.1
          pure (ForInStep.yield ((x.1, c) :: r))
        else pure (ForInStep.yield r) : Sem (ForInStep (List (Str × Addr))))) : Sem _) = pure (closL en l cs) := by
    intro l
    induction l with
    | nil => intro cs _; rfl
    | cons x l ih =>
      intro cs hl
      obtain ⟨n, k⟩ := x
      rw [List.forIn_cons]
      by_cases hk : (k == NameKind.free) = true
      · obtain ⟨c, e⟩ := hl (n, k) List.mem_cons_self (by simpa using hk)
        have e' : en.cells.lookup n = some c := e
        simp only [hk, if_true, cellOf, e', pure_bind, closL, Option.getD_some]
        exact ih _ fun y hy => hl y (List.mem_cons_of_mem _ hy)
      · simp only [hk, pure_bind, closL, Bool.false_eq_true, if_false]
        exact ih _ fun y hy => hl y (List.mem_cons_of_mem _ hy)
  have := go sc.names [] h
  unfold closureFor
  rw [← this]
  first
    | (simp only [bind_pure_comp, id_map', map_pure]; done)
    | (simp only [bind_pure_comp, id_map', map_pure]; exact bind_pure _)
theorem closL_mem (en : Env) : ∀ (l : List (Str × NameKind)) (cs : List (Str × Addr)), (∀ x ∈ l, x.2 = .free → ∃ c, en.cells.lookup x.1 = some c) → (∀ p ∈ cs, en.cells.lookup p.1 = some p.2) →
    ∀ p ∈ closL en l cs, en.cells.lookup p.1 = some p.2
  | [], _, _, h, p, hp => h p hp
  | (n, k) :: r, cs, hl, h, p, hp => by
    refine closL_mem en r _ (fun y hy => hl y (List.mem_cons_of_mem _ hy)) (fun q hq => ?_) p hp
    by_cases hk : (k == NameKind.free) = true
    · rw [if_pos hk] at hq
      rcases List.mem_cons.mp hq with rfl | hq
      · obtain ⟨c, e⟩ := hl (n, k) List.mem_cons_self (by simpa using hk)
        have e' : en.cells.lookup n = some c := e
        show en.cells.lookup n = some ((en.cells.lookup n).getD 0)
        rw [e']; rfl
      · exact h q hq
    · rw [if_neg hk] at hq
      exact h q hq
theorem closL_keeps (en : Env) : ∀ (l : List (Str × NameKind)) (cs : List (Str × Addr)) (x : Str), (∃ c, (x, c) ∈ cs) → ∃ c, (x, c) ∈ closL en l cs
  | [], _, _, h => h
  | (n, k) :: r, cs, x, ⟨c, h⟩ => by
    refine closL_keeps en r _ x ?_
    by_cases hk : (k == NameKind.free) = true
    · rw [if_pos hk]; exact ⟨c, List.mem_cons_of_mem _ h⟩
    · rw [if_neg hk]; exact ⟨c, h⟩
theorem closL_has (en : Env) : ∀ (l : List (Str × NameKind)) (cs : List (Str × Addr)) (x : Str), (x, NameKind.free) ∈ l → ∃ c, (x, c) ∈ closL en l cs
  | (n, k) :: r, cs, x, h => by
    rcases List.mem_cons.mp h with e | h
    · obtain ⟨e1, e2⟩ := Prod.mk.inj e
      subst e1; subst e2
      exact closL_keeps en r _ _ ⟨_, by rw [if_pos (by rfl)]; exact List.mem_cons_self⟩
    · exact closL_has en r _ x h
theorem lookup_of_mem {β : Type} : ∀ {l : List (Str × β)} {x : Str} {c : β}, (x, c) ∈ l → ∃ d, l.lookup x = some d
  | (n, k) :: r, x, c, h => by
    by_cases e : x = n
    · subst e; exact ⟨k, by simp [List.lookup_cons]⟩
    · have eb : (x == n) = false := by simpa using e
      rcases List.mem_cons.mp h with z | h
      · cases z; exact absurd rfl e
      · obtain ⟨d, hd⟩ := lookup_of_mem h
        exact ⟨d, by simp only [List.lookup_cons, eb]; exact hd⟩
theorem relabel_mem {sc : Scope} {en : Env} {x : Str} {k : NameKind} (h : (x, k) ∈ (relabel sc en).names) (hc : ∀ y ∈ sc.names, y.2 ≠ .cell) (hk : k = .cell ∨ k = .free) : (x, NameKind.free) ∈ sc.names := by
  obtain ⟨⟨n, j⟩, hm, e⟩ := List.mem_map.mp h
  by_cases q : (j == NameKind.free && en.scope.kind == .function && en.kindOf n == some .cell) = true
  · have e1 : (n, NameKind.cell) = (x, k) := by simpa only [q, if_true] using e
    cases e1
    have hj : j = .free := by
      simp only [Bool.and_eq_true] at q
      simpa using q.1.1
    rw [← hj]; exact hm
  · have e1 : (n, j) = (x, k) := by simpa only [q, Bool.false_eq_true, if_false] using e
    cases e1
    rcases hk with rfl | rfl
    · exact absurd rfl (hc _ hm)
    · exact hm
theorem relabel_free {en : Env} : ∀ {l : List (Str × NameKind)} {x : Str}, l.lookup x = some .free →
    (l.map fun (n, k) => if (k == NameKind.free && en.scope.kind == .function && en.kindOf n == some .cell) then (n, NameKind.cell) else (n, k)).lookup x = some .cell ∨
    (l.map fun (n, k) => if (k == NameKind.free && en.scope.kind == .function && en.kindOf n == some .cell) then (n, NameKind.cell) else (n, k)).lookup x = some .free
  | (n, k) :: r, x, h => by
    rw [List.map_cons]
    cases hx : x == n with
    | true =>
      simp only [List.lookup_cons, hx] at h
      cases h
      by_cases q : (NameKind.free == NameKind.free && en.scope.kind == .function && en.kindOf n == some .cell) = true
      · left; simp only [q, if_true, List.lookup_cons, hx]
      · right; simp only [q, Bool.false_eq_true, if_false, List.lookup_cons, hx]
    | false =>
      simp only [List.lookup_cons, hx] at h
      rcases relabel_free (en := en) h with g | g
      · left
        by_cases q : (k == NameKind.free && en.scope.kind == .function && en.kindOf n == some .cell) = true
        · simp only [q, if_true, List.lookup_cons, hx]; exact g
        · simp only [q, Bool.false_eq_true, if_false, List.lookup_cons, hx]; exact g
      · right
        by_cases q : (k == NameKind.free && en.scope.kind == .function && en.kindOf n == some .cell) = true
        · simp only [q, if_true, List.lookup_cons, hx]; exact g
        · simp only [q, Bool.false_eq_true, if_false, List.lookup_cons, hx]; exact g

noncomputable def blk (X : Cx) (N' : List Str) (sc : Scope) (cl : List (Str × Addr)) (C : Addr) (s0 : Shared) (H0 : Hp) (fp : List Addr) (pn : List (Addr × Obj)) : Cx :=
  { X with N := N', s₀ := s0, H₀ := H0, env := compEnvC sc cl C X.env, outer := X.stack, ex := fp, fn := fun _ => false, pn := pn, xe := NoX }
noncomputable def capS (cap : List (Option Nat)) (σ : St) : St := cap.map fun o => o.bind fun i => (σ[i]?).join

noncomputable def PTs (X : Cx) (ts : List Expr) (t : TT) : Prop :=
  ∀ (pins : List (Addr × Obj)) (s : Shared) (σ : St) (H : Hp) (Q : Bool → Hp → Prop), Inv X pins σ H s → t σ H Q → wpAny (model X.prog X.w) X.A (testsOf ts X.env) (TP X pins σ Q) X.xe s
noncomputable def tTrue : TT := fun _ H Q => Q true H
theorem pts_nil {X : Cx} : PTs X [] tTrue := fun _ _ _ H _ I h => wpAny_pure ⟨H, I, h⟩
theorem pts_one {X : Cx} {c : Expr} {t : TT} (h : PT X c t) : PTs X [c] t := fun pins s σ H Q I hq => wpAny_tests_one (h pins s σ H Q I hq)

structure CompOk (X : Cx) (sc : Scope) (N' : List Str) (cap : List (Option Nat)) : Prop where
  fr : ∀ x ∈ sc.names, x.2 = .free → X.env.kindOf x.1 = some .cell ∨ X.env.kindOf x.1 = some .free
  nc : ∀ x ∈ sc.names, x.2 ≠ .cell
  kind : sc.kind = .function
  nm : ∀ x ∈ sc.names, x.2 = .local → sc.names.lookup x.1 = some .local
  len : cap.length = N'.length
  cp : ∀ (j i : Nat) (x : Str), N'[j]? = some x → cap[j]? = some (some i) → X.N[i]? = some x ∧ sc.names.lookup x = some .free

noncomputable def tComp (wi : TI) (cap : List (Option Nat)) (g : TG) (tt : TT) (te : TE) : TE := fun σ H Q => wi σ H fun J H1 =>
  ∃ W : Nat → Nat → St → List V → Hp → Prop, (∃ m, W 0 m (capS cap σ) [] H1) ∧ ∀ i m τ ys H, W i m τ ys H → ys.length < sizeLine ∧
    ((J.stop i H ∧ ∀ l, H l = none → Q (.ref l) (upd H l (.lst ys))) ∨
     (J.go i H ∧ ∀ x H', J.yld i H x H' → g x τ H' fun τ2 H2 => tt τ2 H2 fun b H3 => if b = true then te τ2 H3 fun y H4 => ∃ m', m' < m ∧ W (i + 1) m' τ2 (ys ++ [y]) H4 else ∃ m', m' < m ∧ W (i + 1) m' τ2 ys H3))

theorem Inv.track {X : Cx} {pins : List (Addr × Obj)} {σ : St} {H : Hp} {s : Shared} {D : Addr} {o : HO} (I : Inv X pins σ H s) (hn : H D = none) (h1 : X.s₀.heap.objs.size ≤ D) (h2 : D ≠ X.env.locals) (h3 : ∀ x c, X.env.cells.lookup x = some c → c ≠ D)
    (h4 : ∀ p ∈ X.pn ++ pins, p.1 ≠ D) (new : ObjOk X.prog X.w (upd H D o) s.heap D o) : Inv X pins σ (upd H D o) s := by
  have nd : ∀ b u, H b = some u → b ≠ D := fun b u e z => by rw [z, hn] at e; cases e
  have hok : HOk X.prog X.w (upd H D o) s.heap := fun b u e => by
    by_cases hb : b = D
    · subst hb; rw [upd_same] at e; cases e; exact new
    · rw [upd_ne hb] at e
      exact (I.hok b u e).stay (fun _ _ _ q => q) (fun c q => by rw [upd_ne (nd c _ q)]; exact q) fun c xs q => by rw [upd_ne (nd c _ q)]; exact q
  refine I.step (h' := s.heap) (g' := s.gens) (d' := s.drawn) (t' := s.toks) (ch := [D]) (fun b hb => ?_) (fun b o _ _ _ e _ => e) (fun b o _ _ _ e _ => ⟨o.slots, e⟩) (fun b o hc _ n => ?_) (fun b o _ e => ⟨o, e⟩) (fun b xs e => by rw [upd_ne (nd b _ e)]; exact e)
    (fun b ob u e => by rw [upd_ne (nd b _ e)]; exact e) (fun b ps e => ⟨#[], by rw [upd_ne (nd b _ e), e]; simp⟩) (fun m hm => hm) hok I.bare
  · have e : b = D := by simpa using hb
    subst e
    exact ⟨.inr h1, h2, h3, h4⟩
  · have e : b ≠ D := by simpa using hc
    rw [upd_ne e]; exact n

theorem pe_comp {X : Cx} {el tg src : Expr} {ts : List Expr} {sc : Scope} {ps : Pos} {wi : TI} {g : TG} {tt : TT} {te : TE} {N' : List Str} {cap : List (Option Nat)} (hc : X.calm = true) (hi : PI X tg src wi) (ok : CompOk X sc N' cap)
    (body : ∀ cl C s0 H0 fp pn, PG (blk X N' sc cl C s0 H0 fp pn) tg g ∧ PTs (blk X N' sc cl C s0 H0 fp pn) ts tt ∧ PE (blk X N' sc cl C s0 H0 fp pn) el te)
    (hs : ∀ x, foldedSetIterable src X.env x = pure x := by intro _; rfl) : PE X (.ListComp el [⟨tg, src, ts, 0⟩] sc ps) (tComp wi cap g tt te) := by
  intro pins s σ H Q I h
  have hfr : ∀ x ∈ sc.names, x.2 = .free → ∃ c, X.env.cells.lookup x.1 = some c := fun x hx e => I.ok.has x.1 (ok.fr x hx e)
  have hcl := clos_eq sc X.env hfr
  have clm : ∀ x c, (closL X.env sc.names []).lookup x = some c → X.env.cells.lookup x = some c := fun x c e =>
    closL_mem X.env sc.names [] hfr (fun _ z => nomatch z) (x, c) (PySem.mem_of_lookup e)
  generalize hgl : closL X.env sc.names [] = cl at hcl clm
  rw [eval_ListComp]
  refine wpAny_comprehension_free (use := none) rfl hs hcl ok.kind ok.nm ?_
  refine thn (hi pins s σ H _ I h) fun v s1 h1 => thn h1 fun itv s2 h2 => ?_
  obtain ⟨it, fp, tn, J, H2, e, I2, T, st2, f2, W, ⟨m0, w0⟩, turn⟩ := h2
  subst e
  refine wpAny_newObj_type (wpAny_newFunctionEnv ok.nc (by intro y hy; simp at hy) (fun h4 hns hsb => ?_) ok.kind)
  dsimp only at hns hsb ⊢
  generalize hH3 : s2.heap.push { cls := .type "list", dict := none, data := .seq ([] : List Value).toArray } = h3 at hns hsb ⊢
  have hC : h3.objs.size = s2.heap.objs.size + 1 := by rw [← hH3, Heap.size_push]
  generalize hCC : h3.objs.size = C at hns hsb hC ⊢
  generalize hDD : s2.heap.objs.size = D at hC ⊢
  have hDC : D ≠ C := by rw [hC]; exact Nat.ne_of_lt (Nat.lt_succ_self _)
  have old : ∀ b o, s2.heap.get? b = some o → h4.get? b = some o := fun b o e => hsb.extBut b o (by have := Heap.lt_size e; rw [hDD] at this; rw [hC]; exact Nat.ne_of_lt (Nat.lt_succ_of_lt this)) (Heap.get?_push_of_some _ (hH3 ▸ Heap.get?_push_of_some _ e))
  have accO : h4.get? D = some { cls := .type "list", data := .seq ([] : List Value).toArray 0 } := hsb.extBut _ _ hDC (Heap.get?_push_of_some _ (by rw [← hH3, ← hDD]; exact Heap.get?_push_size _ rfl))
  have H2D : H2 D = none := I2.hok.fresh (by rw [hDD]; exact Nat.le_refl _)
  have H2C : H2 C = none := I2.hok.fresh (by rw [hDD, hC]; exact Nat.le_succ _)
  have cellsLt : ∀ x c, X.env.cells.lookup x = some c → c < D := fun x c e => by
    obtain ⟨v, q⟩ := I2.cell x c e
    rw [← hDD]; exact q.lt
  have pinLt : ∀ p ∈ X.pn ++ pins, p.1 < D := fun p hp => by rw [← hDD]; exact Heap.lt_size (I2.pin p hp).1
  have stkLt : ∀ b ∈ frs X.stack, b < D := fun b hb => by
    obtain ⟨_, o, ho, _⟩ := I2.stack.mem hb
    rw [← hDD]; exact Heap.lt_size ho
  have fpLt : ∀ b ∈ fp, b < D := fun b hb => by
    obtain ⟨o, ho, _⟩ := T.obj _ _ st2 b hb
    rw [← hDD]; exact Heap.lt_size ho
  have ltC : ∀ {b : Addr}, b < D → b ≠ C := fun hb => by rw [hC]; exact Nat.ne_of_lt (Nat.lt_succ_of_lt hb)
  have locLt : X.env.locals < D := by rw [← hDD]; exact I2.lt
  have hDge : s2.heap.objs.size ≤ D := by rw [hDD]; exact Nat.le_refl _
  have hCge : s2.heap.objs.size ≤ C := by rw [hDD, hC]; exact Nat.le_succ _
  -- the block's context
  have bok : (blk X N' sc cl C s2 H2 fp (X.pn ++ pins)).Ok := by
    refine ⟨I2.ok.mod, ok.kind, I2.ok.glob, I2.ok.blt, hCge, fun x y c e1 e2 => I2.ok.inj x y c (clm x c e1) (clm y c e2), fun x hx => ?_, fun x c z _ => ?_, I2.ok.hd, I2.ok.frames, .inl rfl, fun b hb => ?_, I2.bs, Nat.le_trans I2.ok.bsz I2.sz, fun b o e hb => ?_, fun b hb z => ?_, I2.stack, I2.stkFree⟩
    · have hx' : (relabel sc X.env).names.lookup x = some .cell ∨ (relabel sc X.env).names.lookup x = some .free := hx
      have hm : (x, NameKind.free) ∈ sc.names := by
        rcases hx' with z | z
        · exact relabel_mem (PySem.mem_of_lookup z) ok.nc (.inl rfl)
        · exact relabel_mem (PySem.mem_of_lookup z) ok.nc (.inr rfl)
      obtain ⟨c, hc⟩ := closL_has X.env sc.names [] x hm
      rw [hgl] at hc
      exact lookup_of_mem hc
    · exact absurd (show false = true from z) Bool.false_ne_true
    · exact ⟨ltC (fpLt b hb), fun x c e => (f2 b hb).2.2.2.2.1 x c (clm x c e)⟩
    · rcases (f2 b hb).2.2.2.1 with z | z
      · exact I2.ok.noex b o e z
      · have := Heap.lt_size e
        exact absurd (Nat.lt_of_lt_of_le this (Nat.le_trans I2.ok.bsz z)) (Nat.lt_irrefl _)
    · rcases List.mem_cons.mp (I2.stkSub b z) with q | q
      · exact (f2 b hb).2.1 q
      · exact (f2 b hb).2.2.1 q
  have pinB : ∀ p ∈ X.pn ++ pins, p.1 ≠ C ∧ p.1 ∉ frs X.stack := fun p hp => ⟨ltC (pinLt p hp), fun z => by
    rcases List.mem_cons.mp (I2.stkSub p.1 z) with q | q
    · exact (I2.pin p hp).2.2.1 q
    · exact (I2.pin p hp).2.2.2.1 q⟩
  have I4 : Inv (blk X N' sc cl C s2 H2 fp (X.pn ++ pins)) [] (capS cap σ) H2 { s2 with heap := h4, toks := s2.toks + ([] : List (Str × Value)).length } := by
    refine ⟨bok, rfl, I2.bare, Un.kept old, ⟨_, hns, fun j x v e1 e2 e3 => ?_⟩, fun x c e => ?_, H2C, fun x c e => I2.freeC x c (clm x c e), fun p hp => ?_, I2.hok.kept old, ?_⟩
    · unfold capS at e2
      rw [List.getElem?_map] at e2
      cases e4 : cap[j]? with
      | none => rw [e4] at e2; cases e2
      | some o =>
        rw [e4] at e2
        cases o with
        | none => cases e2
        | some i =>
          obtain ⟨hNi, hf⟩ := ok.cp j i x e1 e4
          have e5 : (σ[i]?).join = some v := by
            have := Option.some.inj e2
            simpa using this
          have e6 : σ[i]? = some (some v) := by
            cases e7 : σ[i]? with
            | none => rw [e7] at e5; cases e5
            | some z => rw [e7] at e5; cases z with
              | none => cases e5
              | some z => cases e5; rfl
          have hk := ok.fr (x, .free) (PySem.mem_of_lookup hf) rfl
          obtain ⟨m, hn, hl⟩ := I2.loc
          have hv : Vis X.env.scope x := by
            rcases hk with z | z
            · exact .inr (.inl z)
            · exact .inr (.inr z)
          obtain ⟨u, r, lk⟩ := hl i x v hNi e6 hv
          have cellX : ∃ c, X.env.cells.lookup x = some c ∧ s2.heap.IsCell c (some u) := by
            rcases lk with ⟨k1, _⟩ | ⟨_, c, e, z⟩
            · rcases hk with z | z
              · have z' : X.env.kindOf x = some .cell := z
                rw [k1] at z'; cases z'
              · have z' : X.env.kindOf x = some .free := z
                rw [k1] at z'; cases z'
            · exact ⟨c, e, z⟩
          obtain ⟨c, hc1, ob, hc2, hc3⟩ := cellX
          obtain ⟨c', hc'⟩ := closL_has X.env sc.names [] x (PySem.mem_of_lookup hf)
          rw [hgl] at hc'
          obtain ⟨d, hd⟩ := lookup_of_mem hc'
          have ed : d = c := by
            have := clm x d hd
            rw [hc1] at this; cases this; rfl
          subst ed
          refine ⟨u, r, .inr ⟨?_, d, hd, ob, old _ _ hc2, hc3⟩⟩
          exact relabel_free hf
    · obtain ⟨v, ob, ho, hd⟩ := I2.cell x c (clm x c e)
      exact ⟨v, ob, old _ _ ho, hd⟩
    · have hp' : p ∈ X.pn ++ pins := by simpa [blk] using hp
      obtain ⟨e1, e2, e3, e4, e5⟩ := I2.pin p hp'
      exact ⟨old _ _ e1, e2, (pinB p hp').1, (pinB p hp').2, e5⟩
    · show (capS cap σ).length = N'.length
      unfold capS
      rw [List.length_map]; exact ok.len
  -- what stays true of the iterator's records
  have fpB : ∀ {H' : Hp} {pl : List (Addr × Obj)}, (∀ b ∈ fp, H' b = none) → (∀ p ∈ pl, p.1 ∉ fp) → ∀ b ∈ fp, FpOk (blk X N' sc cl C s2 H2 fp (X.pn ++ pins)) pl H' b := fun {H' pl} hn hpl b hb =>
    ⟨hn b hb, ltC (fpLt b hb), bok.exfs b hb, .inl hb, fun x c e => (f2 b hb).2.2.2.2.1 x c (clm x c e), fun p hp z => by
      rcases List.mem_append.mp (show p ∈ (X.pn ++ pins) ++ pl from hp) with q | q
      · exact (f2 b hb).2.2.2.2.2 p q z
      · exact hpl p q (by rw [z]; exact hb)⟩
  have Dfp : ∀ (o : Obj), ∀ p ∈ [(D, o)], p.1 ∉ fp := fun o p hp z => by
    have e : p = (D, o) := by simpa using hp
    subst e
    exact Nat.lt_irrefl _ (fpLt D z)
  have Dfs : D ∉ frs X.stack := fun z => Nat.lt_irrefl _ (stkLt D z)
  obtain ⟨bG, bT, bE⟩ := body cl C s2 H2 fp (X.pn ++ pins)
  have loop : codeAny (model X.prog X.w) X.A (.compLoop (.ListComp el [⟨tg, src, ts, 0⟩] sc ps) 0 (.ref it) (.ref D) (compEnvC sc cl C X.env)) (compPost (model X.prog X.w) X.A X.xe none (EP X pins σ Q) (.ref D) C)
      { s2 with heap := h4, toks := s2.toks + ([] : List (Str × Value)).length } := by
    refine comp_loop (fun n s' => ∃ i τ ys us k H', Inv (blk X N' sc cl C s2 H2 fp (X.pn ++ pins)) [] τ H' s' ∧ tn i s'.heap ∧ (∀ b ∈ fp, H' b = none) ∧ Vals ys us ∧ s'.heap.get? D = some { cls := .type "list", data := .seq us.toArray k } ∧ H' D = none ∧ W i n τ ys H') ?_ m0
      ⟨0, _, [], [], 0, H2, I4, T.keep _ _ _ st2 (fun b _ o e => old b o e), fun b hb => (f2 b hb).1, .nil, accO, H2D, w0⟩
    rintro n s5 ⟨i, τ, ys, us, k, H5, I5, st5, fr5, rv5, ho5, hD5, w5⟩
    obtain ⟨hsz, alt⟩ := turn i n τ ys H5 w5
    have I5p : Inv (blk X N' sc cl C s2 H2 fp (X.pn ++ pins)) [(D, { cls := .type "list", data := .seq us.toArray k })] τ H5 s5 := I5.pins_of fun p hp => by
      have e : p = (D, { cls := .type "list", data := .seq us.toArray k }) := by simpa using hp
      subst e
      exact ⟨ho5, hD5, hDC, Dfs, fun v z => by cases z⟩
    rcases alt with ⟨stop, fin⟩ | ⟨go, step⟩
    · refine thn (T.done (blk X N' sc cl C s2 H2 fp (X.pn ++ pins)) rfl rfl rfl hc i _ s5 τ H5 NoX I5p (fpB fr5 (Dfp _)) st5 stop) fun r s6 ⟨hr, I6⟩ => ?_
      subst hr
      have ho6 := (I6.pin (D, _) (List.mem_append_right _ (List.mem_singleton.mpr rfl))).1
      obtain ⟨m6, hn6, _⟩ := I6.loc
      refine ⟨m6, hn6, fun h7 hs7 => ?_⟩
      have J6 : Inv X pins σ H5 s6 := I2.call' (ch := fp) I6.os I6.base I6.hok I6.bare fun b hb => ⟨(f2 b hb).2.2.2.1, (f2 b hb).2.1, (f2 b hb).2.2.2.2.1, (f2 b hb).2.2.2.2.2⟩
      have H5C : H5 C = none := I6.free
      have cne : ∀ {b : Addr}, b < D → b ≠ C := ltC
      have J7 : Inv X pins σ H5 { s6 with heap := h7, toks := s6.toks } := J6.turned (it := C) (fun b o hb e => hs7.extBut b o hb e) H5C (Ne.symm (ltC locLt)) (.inr (Nat.le_trans I2.sz hCge)) (fun x c e => ltC (cellsLt x c e)) (fun p hp => ltC (pinLt p hp))
      have ho7 : h7.get? D = some { cls := .type "list", data := .seq us.toArray k } := hs7.extBut D _ hDC ho6
      refine ⟨.ref D, upd H5 D (.lst ys), ?_, rfl, fin D hD5⟩
      exact Inv.track J7 hD5 (Nat.le_trans I2.sz hDge) (Ne.symm (Nat.ne_of_lt locLt)) (fun x c e => Nat.ne_of_lt (cellsLt x c e)) (fun p hp => Nat.ne_of_lt (pinLt p hp)) ⟨Nat.le_of_lt hsz, us, k, rv5, ho7⟩
    · refine thn (T.item (blk X N' sc cl C s2 H2 fp (X.pn ++ pins)) rfl rfl rfl hc i _ s5 τ H5 NoX I5p (fpB fr5 (Dfp _)) st5 go) fun r s6 ⟨u, hr, h6⟩ => ?_
      subst hr
      refine thn h6 fun _ s7 ⟨x, H7, I7, r7, y7, st7, fr7⟩ => ?_
      have I7p := I7.pinned (fpB fr7 (Dfp _)) (T.obj _ _ st7)
      refine thn (bG _ s7 τ H7 x u _ I7p r7 (step x H7 y7)) fun _ s8 ⟨τ8, H8, I8, q8⟩ => ?_
      have back : ∀ {τ9 : St} {H9 : Hp} {s9 : Shared}, Inv (blk X N' sc cl C s2 H2 fp (X.pn ++ pins)) ([(D, { cls := .type "list", data := .seq us.toArray k })] ++ pinsAt fp s7.heap) τ9 H9 s9 →
          tn (i + 1) s9.heap ∧ (∀ b ∈ fp, H9 b = none) ∧ s9.heap.get? D = some { cls := .type "list", data := .seq us.toArray k } ∧ H9 D = none := fun {τ9 H9 s9} I9 => by
        have pD := I9.pin (D, { cls := .type "list", data := .seq us.toArray k }) (List.mem_append_right _ (List.mem_append_left _ (List.mem_singleton.mpr rfl)))
        refine ⟨T.keep _ _ _ st7 fun b hb o e => (I9.pin (b, o) (List.mem_append_right _ (List.mem_append_right _ (mem_pinsAt hb e)))).1, fun b hb => ?_, pD.1, pD.2.1⟩
        obtain ⟨o, e, _⟩ := T.obj _ _ st7 b hb
        exact (I9.pin (b, o) (List.mem_append_right _ (List.mem_append_right _ (mem_pinsAt hb e)))).2.1
      have drop : ∀ {τ9 : St} {H9 : Hp} {s9 : Shared} {pl : List (Addr × Obj)}, Inv (blk X N' sc cl C s2 H2 fp (X.pn ++ pins)) pl τ9 H9 s9 → Inv (blk X N' sc cl C s2 H2 fp (X.pn ++ pins)) [] τ9 H9 s9 := fun I9 => I9.pins_of fun p hp => nomatch hp
      refine thn (bT _ s8 τ8 H8 _ I8 q8) fun b s9 ⟨H9, I9, q9⟩ => ?_
      cases b with
      | false =>
        rw [if_neg Bool.false_ne_true] at q9 ⊢
        obtain ⟨m', hm, w9⟩ := q9
        obtain ⟨t9, f9, o9, d9⟩ := back I9
        exact ⟨m', hm, i + 1, τ8, ys, us, k, H9, drop I9, t9, f9, rv5, o9, d9, w9⟩
      | true =>
        rw [if_pos rfl] at q9 ⊢
        refine thn (bE _ s9 τ8 H9 _ I9 q9) fun y s10 ⟨z, H10, I10, r10, q10⟩ => ?_
        obtain ⟨m', hm, w10⟩ := q10
        obtain ⟨t10, f10, o10, d10⟩ := back I10
        have hl := rv5.length
        refine append_at (hsz := by show us.toArray.size ≤ sizeLine; rw [List.size_toArray, ← hl]; exact Nat.le_of_lt hsz) o10 fun h11 hs11 hD11 => ?_
        have I11 : Inv (blk X N' sc cl C s2 H2 fp (X.pn ++ pins)) [] τ8 H10 { s10 with heap := h11, toks := s10.toks } := (drop I10).turned (it := D) (fun b o hb e => hs11.extBut b o hb e) d10 hDC (.inr hDge) (fun x c e => Nat.ne_of_lt (cellsLt x c (clm x c e)))
          (fun p hp => by have hp' : p ∈ X.pn ++ pins := by simpa [blk] using hp
                          exact Nat.ne_of_lt (pinLt p hp'))
        refine ⟨m', hm, i + 1, τ8, ys ++ [z], us ++ [y], k + 1, H10, I11, T.keep _ _ _ t10 (fun b hb o e => hs11.extBut b o (Nat.ne_of_lt (fpLt b hb)) e), f10, rv5.append (.cons r10 .nil), ?_, d10, w10⟩
        rw [hD11]
        simp
  refine codeAny_compStart_list loop ?_
  exact T.self _ 0 _ _ _ (T.keep _ _ _ st2 (fun b _ o e => old b o e)) loop
end BX

end
section
set_option Elab.async false
set_option linter.all false
set_option maxRecDepth 100000
set_option maxHeartbeats 4000000
namespace BX
open PySem PySem.Spec L2
open PyProof.Rows hiding St

theorem Same.tup {K : PySem.W.Frag} {H H' : Hp} {a : Addr} {xs : List V} (e : Same H H') (h : SqT K H a xs) : SqT K H' a xs := by
  rcases h with (h | ⟨o, h⟩) | h
  · exact .inl (.inl (e _ _ h))
  · exact .inl (.inr ⟨o, e _ _ h⟩)
  · exact .inr h

noncomputable def scr (ns : List Int) : PyData := .dict (ns.map fun n => (.int n, .none))

mutual
noncomputable def Rep (K : PySem.W.Frag) (H : Hp) : PyData → V → Prop
  | .none, v => v = .non
  | .bool b, v => v = .bl b
  | .int i, v => v = .int i
  | .str x, v => v = .str x
  | .tuple ds, v => ∃ a xs, v = .ref a ∧ SqT K H a xs ∧ Reps K H ds xs
  | .list ds, v => ∃ a xs, v = .ref a ∧ H a = some (.lst xs) ∧ Reps K H ds xs
  | .dict kvs, v => ∃ a, v = .ref a ∧ ((∃ ns : List Int, SqL K H a (List.map V.int ns) ∧ kvs = ns.map (fun n => (PyData.int n, PyData.none))) ∨ (∃ ks ob, H a = some (.frz ob (.dK ks)) ∧ RepD K H kvs ks) ∨ (∃ x : Str, kvs = [(.str x, .none)] ∧ PySem.W.nsIn K mainGlobals x = some (some (.ref a))) ∨ ∃ (x : Str) (C : Addr) (oe : Obj), kvs = [(.str x, .bool true)] ∧ H a = some (.frz oe (.own a)) ∧ PySem.W.nsIn K mainGlobals x = some (some (.ref C)) ∧ oe.cls = .ref C ∧ oe.dict = none ∧ ∃ vs, oe.data = .fields vs)
noncomputable def Reps (K : PySem.W.Frag) (H : Hp) : List PyData → List V → Prop
  | [], xs => xs = []
  | d :: ds, xs => ∃ x r, xs = x :: r ∧ Rep K H d x ∧ Reps K H ds r
noncomputable def RepD (K : PySem.W.Frag) (H : Hp) : List (PyData × PyData) → List (Key × V) → Prop
  | [], _ => False
  | (.none, _) :: r, ks => RepM K H r ks
  | _ :: _, _ => False
noncomputable def RepM (K : PySem.W.Frag) (H : Hp) : List (PyData × PyData) → List (Key × V) → Prop
  | [], ks => ks = []
  | (k, d) :: r, ks => ∃ i x s, k = .int i ∧ ks = (Sum.inl i, x) :: s ∧ Rep K H d x ∧ RepM K H r s
end
noncomputable def isScr (kvs : List (PyData × PyData)) : Bool := kvs.all fun p => match p with
  | (.int _, .none) => true
  | _ => false
theorem isScr_map (ns : List Int) : isScr (ns.map fun n => (PyData.int n, PyData.none)) = true := by
  simp [isScr]
theorem RepD.out {K : PySem.W.Frag} {H : Hp} : ∀ {kvs : List (PyData × PyData)} {ks : List (Key × V)}, RepD K H kvs ks → ∃ c r, kvs = (.none, c) :: r ∧ RepM K H r ks
  | [], _, h => h.elim
  | (.none, c) :: r, ks, h => ⟨c, r, rfl, h⟩
  | (.bool _, _) :: _, _, h => h.elim
  | (.int _, _) :: _, _, h => h.elim
  | (.str _, _) :: _, _, h => h.elim
  | (.list _, _) :: _, _, h => h.elim
  | (.tuple _, _) :: _, _, h => h.elim
  | (.dict _, _) :: _, _, h => h.elim
theorem Rep.scrOut {K : PySem.W.Frag} {H : Hp} {kvs : List (PyData × PyData)} {v : V} (h : Rep K H (.dict kvs) v) (hs : isScr kvs = true) : ∃ a ns, v = .ref a ∧ SqL K H a (List.map V.int ns) ∧ kvs = ns.map (fun n => (PyData.int n, PyData.none)) := by
  obtain ⟨a, h1, h2 | ⟨ks, ob, h2, h3⟩ | ⟨x, h2, _⟩ | ⟨x, _, _, h2, _⟩⟩ := h
  · obtain ⟨ns, q1, q2⟩ := h2; exact ⟨a, ns, h1, q1, q2⟩
  · obtain ⟨c, r, rfl, _⟩ := h3.out
    simp [isScr] at hs
  · subst h2; simp [isScr] at hs
  · subst h2; simp [isScr] at hs
noncomputable def excD (x : Str) : PyData := .dict [(.str x, .bool true)]
noncomputable def fnD (x : Str) : PyData := .dict [(.str x, .none)]

noncomputable def SameE (H H' : Hp) : Prop := ∀ b o, H b = some o → (∀ φ, o ≠ .ext φ) → H' b = some o
theorem Same.e {H H' : Hp} (s : Same H H') : SameE H H' := fun b o h _ => s b o h
theorem SameE.refl (H : Hp) : SameE H H := fun _ _ h _ => h
theorem SameE.trans {H H1 H2 : Hp} (a : SameE H H1) (b : SameE H1 H2) : SameE H H2 := fun c o h n => b c o (a c o h n) n
theorem SameE.tup {K : PySem.W.Frag} {H H' : Hp} {a : Addr} {xs : List V} (e : SameE H H') (h : SqT K H a xs) : SqT K H' a xs := by
  rcases h with (h | ⟨o, h⟩) | h
  · exact .inl (.inl (e _ _ h fun _ z => nomatch z))
  · exact .inl (.inr ⟨o, e _ _ h fun _ z => nomatch z⟩)
  · exact .inr h
theorem SameE.sql {K : PySem.W.Frag} {H H' : Hp} {a : Addr} {xs : List V} (e : SameE H H') (h : SqL K H a xs) : SqL K H' a xs := by
  rcases h with (h | ⟨o, h⟩) | h
  · exact .inl (.inl (e _ _ h fun _ z => nomatch z))
  · exact .inl (.inr ⟨o, e _ _ h fun _ z => nomatch z⟩)
  · exact .inr h
section
variable {K : PySem.W.Frag} {H H' : Hp}
mutual
theorem Rep.mono (e : Same H H') : ∀ (d : PyData) (v : V), Rep K H d v → Rep K H' d v
  | .none, v, h => h
  | .bool _, v, h => h
  | .int _, v, h => h
  | .str _, v, h => h
  | .tuple ds, v, ⟨a, xs, h1, h2, h3⟩ => ⟨a, xs, h1, Same.tup e h2, Reps.mono e ds xs h3⟩
  | .list ds, v, ⟨a, xs, h1, h2, h3⟩ => ⟨a, xs, h1, e _ _ h2, Reps.mono e ds xs h3⟩
  | .dict kvs, v, ⟨a, h1, h2⟩ => ⟨a, h1, h2.imp (fun ⟨ns, q1, q2⟩ => ⟨ns, e.seq q1, q2⟩) fun z => z.imp (fun ⟨ks, ob, q1, q2⟩ => ⟨ks, ob, e _ _ q1, RepD.mono e kvs ks q2⟩) fun y => y.imp id fun ⟨x, C, oe, q1, q2, q3⟩ => ⟨x, C, oe, q1, e _ _ q2, q3⟩⟩
theorem Reps.mono (e : Same H H') : ∀ (ds : List PyData) (xs : List V), Reps K H ds xs → Reps K H' ds xs
  | [], xs, h => h
  | d :: ds, xs, ⟨x, r, h1, h2, h3⟩ => ⟨x, r, h1, Rep.mono e d x h2, Reps.mono e ds r h3⟩
theorem RepD.mono (e : Same H H') : ∀ (kvs : List (PyData × PyData)) (ks : List (Key × V)), RepD K H kvs ks → RepD K H' kvs ks
  | [], _, h => h
  | (.none, c) :: r, ks, h => RepM.mono e r ks h
  | (.bool _, _) :: _, _, h => h
  | (.int _, _) :: _, _, h => h
  | (.str _, _) :: _, _, h => h
  | (.list _, _) :: _, _, h => h
  | (.tuple _, _) :: _, _, h => h
  | (.dict _, _) :: _, _, h => h
theorem RepM.mono (e : Same H H') : ∀ (kvs : List (PyData × PyData)) (ks : List (Key × V)), RepM K H kvs ks → RepM K H' kvs ks
  | [], _, h => h
  | (k, d) :: r, ks, ⟨i, x, s, h1, h2, h3, h4⟩ => ⟨i, x, s, h1, h2, Rep.mono e d x h3, RepM.mono e r s h4⟩
end
mutual
theorem Rep.monoE (e : SameE H H') : ∀ (d : PyData) (v : V), Rep K H d v → Rep K H' d v
  | .none, v, h => h
  | .bool _, v, h => h
  | .int _, v, h => h
  | .str _, v, h => h
  | .tuple ds, v, ⟨a, xs, h1, h2, h3⟩ => ⟨a, xs, h1, SameE.tup e h2, Reps.monoE e ds xs h3⟩
  | .list ds, v, ⟨a, xs, h1, h2, h3⟩ => ⟨a, xs, h1, e _ _ h2 (fun _ z => nomatch z), Reps.monoE e ds xs h3⟩
  | .dict kvs, v, ⟨a, h1, h2⟩ => ⟨a, h1, h2.imp (fun ⟨ns, q1, q2⟩ => ⟨ns, SameE.sql e q1, q2⟩) fun z => z.imp (fun ⟨ks, ob, q1, q2⟩ => ⟨ks, ob, e _ _ q1 (fun _ z => nomatch z), RepD.monoE e kvs ks q2⟩) fun y => y.imp id fun ⟨x, C, oe, q1, q2, q3⟩ => ⟨x, C, oe, q1, e _ _ q2 (fun _ z => nomatch z), q3⟩⟩
theorem Reps.monoE (e : SameE H H') : ∀ (ds : List PyData) (xs : List V), Reps K H ds xs → Reps K H' ds xs
  | [], xs, h => h
  | d :: ds, xs, ⟨x, r, h1, h2, h3⟩ => ⟨x, r, h1, Rep.monoE e d x h2, Reps.monoE e ds r h3⟩
theorem RepD.monoE (e : SameE H H') : ∀ (kvs : List (PyData × PyData)) (ks : List (Key × V)), RepD K H kvs ks → RepD K H' kvs ks
  | [], _, h => h
  | (.none, c) :: r, ks, h => RepM.monoE e r ks h
  | (.bool _, _) :: _, _, h => h
  | (.int _, _) :: _, _, h => h
  | (.str _, _) :: _, _, h => h
  | (.list _, _) :: _, _, h => h
  | (.tuple _, _) :: _, _, h => h
  | (.dict _, _) :: _, _, h => h
theorem RepM.monoE (e : SameE H H') : ∀ (kvs : List (PyData × PyData)) (ks : List (Key × V)), RepM K H kvs ks → RepM K H' kvs ks
  | [], _, h => h
  | (k, d) :: r, ks, ⟨i, x, s, h1, h2, h3, h4⟩ => ⟨i, x, s, h1, h2, Rep.monoE e d x h3, RepM.monoE e r s h4⟩
end
theorem Reps.length : ∀ {ds : List PyData} {xs : List V}, Reps K H ds xs → xs.length = ds.length
  | [], xs, h => by cases h; rfl
  | d :: ds, xs, ⟨x, r, h1, h2, h3⟩ => by subst h1; simp [Reps.length h3]
theorem Reps.get : ∀ {ds : List PyData} {xs : List V} {i : Nat} {d : PyData}, Reps K H ds xs → ds[i]? = some d → ∃ x, xs[i]? = some x ∧ Rep K H d x
  | [], xs, i, d, h, e => by simp at e
  | c :: ds, xs, 0, d, ⟨x, r, h1, h2, h3⟩, e => by subst h1; simp at e; subst e; exact ⟨x, rfl, h2⟩
  | c :: ds, xs, i + 1, d, ⟨x, r, h1, h2, h3⟩, e => by
    subst h1
    obtain ⟨y, e1, e2⟩ := Reps.get (i := i) h3 (by simpa using e)
    exact ⟨y, by simpa using e1, e2⟩
theorem Reps.append : ∀ {ds es : List PyData} {xs ys : List V}, Reps K H ds xs → Reps K H es ys → Reps K H (ds ++ es) (xs ++ ys)
  | [], es, xs, ys, h, g => by cases h; exact g
  | d :: ds, es, xs, ys, ⟨x, r, h1, h2, h3⟩, g => by subst h1; exact ⟨x, r ++ ys, rfl, h2, Reps.append h3 g⟩
theorem Reps.take : ∀ {ds : List PyData} {xs : List V} (n : Nat), Reps K H ds xs → Reps K H (ds.take n) (xs.take n)
  | ds, xs, 0, h => by simp; rfl
  | [], xs, n + 1, h => by cases h; rfl
  | d :: ds, xs, n + 1, ⟨x, r, h1, h2, h3⟩ => by subst h1; exact ⟨x, _, rfl, h2, Reps.take n h3⟩
theorem Reps.drop : ∀ {ds : List PyData} {xs : List V} (n : Nat), Reps K H ds xs → Reps K H (ds.drop n) (xs.drop n)
  | ds, xs, 0, h => by simpa using h
  | [], xs, n + 1, h => by cases h; rfl
  | d :: ds, xs, n + 1, ⟨x, r, h1, h2, h3⟩ => by subst h1; simpa using Reps.drop n h3
theorem Reps.ints : ∀ {ns : List Int} {xs : List V}, Reps K H (ns.map PyData.int) xs → xs = ns.map V.int
  | [], xs, h => h
  | n :: ns, xs, ⟨x, r, h1, h2, h3⟩ => by subst h1; cases (show x = V.int n from h2); rw [Reps.ints h3]; rfl
end

section
variable {X : Cx} {pins : List (Addr × Obj)} {σ : St} {H : Hp} {s : Shared}
mutual
theorem reads_of (I : Inv X pins σ H s) : ∀ (d : PyData) (v : V) (u : Value), Rep X.K H d v → RelV v u → d.canLay0 = true → ∃ as, Reads s.heap u d as
  | .none, v, u, h, r, _ => by cases h; cases r; exact ⟨_, .none⟩
  | .bool b, v, u, h, r, _ => by cases h; cases r; exact ⟨_, .bool b⟩
  | .int i, v, u, h, r, _ => by cases h; obtain ⟨t, rfl⟩ := r; exact ⟨_, .int i t⟩
  | .str x, v, u, h, r, _ => by cases h; obtain ⟨t, rfl⟩ := r; exact ⟨_, .str x t⟩
  | .tuple ds, v, u, ⟨a, xs, h1, h2, h3⟩, r, hc => by
    subst h1; cases r
    obtain ⟨its, rv, ⟨o, e1, e2, n, e3⟩, _⟩ := I.tuple h2
    obtain ⟨as, ra⟩ := readsAll_of I ds xs its h3 rv (by simpa [PyData.canLay0] using hc)
    exact ⟨as, .tuple e1 e2 e3 (by simpa using ra)⟩
  | .list ds, v, u, ⟨a, xs, h1, h2, h3⟩, r, hc => by
    subst h1; cases r
    obtain ⟨its, rv, ⟨o, n, e1, e2, e3, e4⟩, _⟩ := I.list (SqL.of h2)
    obtain ⟨as, ra⟩ := readsAll_of I ds xs its h3 rv (by simpa [PyData.canLay0] using hc)
    exact ⟨a :: as, .list e1 e2 e4 (by simpa using ra)⟩
  | .dict kvs, v, u, h, r, hc => by simp [PyData.canLay0] at hc
theorem readsAll_of (I : Inv X pins σ H s) : ∀ (ds : List PyData) (xs : List V) (us : List Value), Reps X.K H ds xs → Vals xs us → PyData.canLayAll0 ds = true → ∃ as, ReadsAll s.heap us ds as
  | [], xs, us, h, r, _ => by cases h; cases r; exact ⟨_, .nil⟩
  | d :: ds, xs, us, ⟨x, q, h1, h2, h3⟩, r, hc => by
    subst h1
    cases r with
    | cons r1 r2 =>
      have hc' : d.canLay0 = true ∧ PyData.canLayAll0 ds = true := by simpa [PyData.canLayAll0] using hc
      obtain ⟨as, ra⟩ := reads_of I d x _ h2 r1 hc'.1
      obtain ⟨bs, rb⟩ := readsAll_of I ds q _ h3 r2 hc'.2
      exact ⟨_, .cons ra rb⟩
end
end

noncomputable abbrev Rho := List (Option PyData)
structure EnvR (K : PySem.W.Frag) (H : Hp) (ρ : Rho) (σ : St) : Prop where
  len : ρ.length = σ.length
  at' : ∀ (i : Nat) (d : PyData), ρ[i]? = some (some d) → ∃ v, σ[i]? = some (some v) ∧ Rep K H d v
theorem EnvR.mono {K : PySem.W.Frag} {H H' : Hp} {ρ : Rho} {σ : St} (e : EnvR K H ρ σ) (h : Same H H') : EnvR K H' ρ σ :=
  ⟨e.len, fun i d q => let ⟨v, e1, e2⟩ := e.at' i d q; ⟨v, e1, Rep.mono h d v e2⟩⟩
theorem EnvR.set {K : PySem.W.Frag} {H : Hp} {ρ : Rho} {σ : St} (e : EnvR K H ρ σ) {i : Nat} {d : PyData} {v : V} (r : Rep K H d v) : EnvR K H (ρ.set i (some d)) (σ.set i (some v)) := by
  refine ⟨by simp [e.len], fun j c q => ?_⟩
  by_cases hj : i = j
  · subst hj
    rw [List.getElem?_set] at q ⊢
    simp only [if_true] at q ⊢
    by_cases hl : i < ρ.length
    · rw [if_pos hl] at q
      rw [if_pos (by rw [← e.len]; exact hl)]
      cases q
      exact ⟨v, rfl, r⟩
    · rw [if_neg hl] at q; cases q
  · rw [List.getElem?_set_ne hj] at q ⊢
    exact e.at' j c q
noncomputable def lkp (i : Nat) (ρ : Rho) : Option PyData := (ρ[i]?).join
theorem lkp_some {i : Nat} {ρ : Rho} {d : PyData} (h : lkp i ρ = some d) : ρ[i]? = some (some d) := by
  unfold lkp at h
  cases e : ρ[i]? with
  | none => rw [e] at h; cases h
  | some o => rw [e] at h; cases o with
    | none => cases h
    | some c => cases h; rfl

noncomputable def tD (K : PySem.W.Frag) (f : Rho → Option PyData) : TE := fun σ H Q => ∃ ρ d, EnvR K H ρ σ ∧ f ρ = some d ∧ ∀ v H', Same H H' → Rep K H' d v → Q v H'
@[irreducible] noncomputable def PD (X : Cx) (e : Expr) (f : Rho → Option PyData) : Prop := PE X e (tD X.K f)
noncomputable def tDT (K : PySem.W.Frag) (f : Rho → Option Bool) : TT := fun σ H Q => ∃ ρ b, EnvR K H ρ σ ∧ f ρ = some b ∧ ∀ H', Same H H' → Q b H'
@[irreducible] noncomputable def PTD (X : Cx) (e : Expr) (f : Rho → Option Bool) : Prop := PT X e (tDT X.K f)
noncomputable def tDA (K : PySem.W.Frag) (f : Rho → Option (List PyData)) : TA := fun σ H Q => ∃ ρ ds, EnvR K H ρ σ ∧ f ρ = some ds ∧ ∀ vs H', Same H H' → Reps K H' ds vs → Q vs H'
@[irreducible] noncomputable def PAD (X : Cx) (es : List Expr) (f : Rho → Option (List PyData)) : Prop := PA X es (tDA X.K f)
inductive Out where
  | nx (ρ : Rho) | rt (d : PyData) | bk (ρ : Rho) | ct (ρ : Rho)
noncomputable def contD (K : PySem.W.Frag) (D : Ends) (H : Hp) : Out → Prop
  | .nx ρ => ∀ σ H', Same H H' → EnvR K H' ρ σ → D.nx σ H'
  | .rt d => ∀ v H', Same H H' → Rep K H' d v → D.rt v H'
  | .bk ρ => ∀ σ H', Same H H' → EnvR K H' ρ σ → D.bk σ H'
  | .ct ρ => ∀ σ H', Same H H' → EnvR K H' ρ σ → D.ct σ H'
theorem contD.mono {K : PySem.W.Frag} {D : Ends} {H H' : Hp} {o : Out} (h : contD K D H o) (e : Same H H') : contD K D H' o := by
  cases o with
  | nx ρ => exact fun σ H2 e2 r => h σ H2 (e.trans e2) r
  | rt d => exact fun v H2 e2 r => h v H2 (e.trans e2) r
  | bk ρ => exact fun σ H2 e2 r => h σ H2 (e.trans e2) r
  | ct ρ => exact fun σ H2 e2 r => h σ H2 (e.trans e2) r
noncomputable def tDS (K : PySem.W.Frag) (F : Rho → Option Out) : TS := fun D σ H => ∃ ρ o, EnvR K H ρ σ ∧ F ρ = some o ∧ contD K D H o
@[irreducible] noncomputable def PSD (X : Cx) (st : Stmt) (F : Rho → Option Out) : Prop := PS X st (tDS X.K F)
@[irreducible] noncomputable def PSsD (X : Cx) (st : List Stmt) (F : Rho → Option Out) : Prop := PSs X st (tDS X.K F)
noncomputable def tDG (K : PySem.W.Frag) (ga : PyData → Rho → Option Rho) : TG := fun v σ H Q => ∃ ρ d ρ', EnvR K H ρ σ ∧ Rep K H d v ∧ ga d ρ = some ρ' ∧ ∀ σ' H', Same H H' → EnvR K H' ρ' σ' → Q σ' H'
@[irreducible] noncomputable def PGD (X : Cx) (tg : Expr) (ga : PyData → Rho → Option Rho) : Prop := PG X tg (tDG X.K ga)

section
variable {X : Cx} {e a b c : Expr} {es : List Expr} {fa fb fc : Rho → Option PyData} {pos : Pos}
theorem PE.imp {t t' : TE} (h : PE X e t) (hi : ∀ σ H Q, t' σ H Q → t σ H Q) : PE X e t' := fun pins s σ H Q I q => h pins s σ H Q I (hi σ H Q q)
theorem PT.imp {t t' : TT} (h : PT X e t) (hi : ∀ σ H Q, t' σ H Q → t σ H Q) : PT X e t' := fun pins s σ H Q I q => h pins s σ H Q I (hi σ H Q q)
theorem PA.imp {t t' : TA} (h : PA X es t) (hi : ∀ σ H Q, t' σ H Q → t σ H Q) : PA X es t' := fun pos pins s σ H Q I q => h pos pins s σ H Q I (hi σ H Q q)
theorem PS.imp {st : Stmt} {t t' : TS} (h : PS X st t) (hi : ∀ D σ H, t' D σ H → t D σ H) : PS X st t' := fun pins s σ H D I q => h pins s σ H D I (hi D σ H q)
theorem PSs.imp {st : List Stmt} {t t' : TS} (h : PSs X st t) (hi : ∀ D σ H, t' D σ H → t D σ H) : PSs X st t' := fun pins s σ H D I q => h pins s σ H D I (hi D σ H q)
theorem PG.imp {t t' : TG} (h : PG X e t) (hi : ∀ v σ H Q, t' v σ H Q → t v σ H Q) : PG X e t' := fun pins s σ H v u Q I r q => h pins s σ H v u Q I r (hi v σ H Q q)

theorem pd_var (i : Nat) {x : Str} {pos : Pos} (hN : X.N[i]? = some x := by rfl) (hv : Vis X.env.scope x := by first | exact Or.inl rfl | exact Or.inr (Or.inl rfl) | exact Or.inr (Or.inr rfl)) (hd : (x == ("__debug__" : Str)) = false := by decide)
    (hcd : (x == ("__classdict__" : Str)) = false := by decide) : PD X (.Name x pos) (lkp i) := by
  with_unfolding_all exact (PE.imp (pe_var hN hv hd hcd) fun σ H Q ⟨ρ, d, e, h, k⟩ => let ⟨v, e1, e2⟩ := e.at' i d (lkp_some h); ⟨v, e1, k v H (Same.refl H) e2⟩)
noncomputable def cst (d : PyData) (_ : Rho) : Option PyData := some d
theorem pd_int {i j pos} : PD X (.Constant (.int i) j pos) (cst (.int i)) := by
  with_unfolding_all exact (PE.imp pe_int fun σ H Q ⟨ρ, d, e, h, k⟩ => by cases h; exact k _ H (Same.refl H) rfl)
theorem pd_bl {i j pos} : PD X (.Constant (.bool i) j pos) (cst (.bool i)) := by
  with_unfolding_all exact (PE.imp pe_bl fun σ H Q ⟨ρ, d, e, h, k⟩ => by cases h; exact k _ H (Same.refl H) rfl)
theorem pd_non {j pos} : PD X (.Constant .none j pos) (cst .none) := by
  with_unfolding_all exact (PE.imp pe_non fun σ H Q ⟨ρ, d, e, h, k⟩ => by cases h; exact k _ H (Same.refl H) rfl)
theorem pd_str {i j pos} : PD X (.Constant (.str i) j pos) (cst (.str i)) := by
  with_unfolding_all exact (PE.imp pe_str fun σ H Q ⟨ρ, d, e, h, k⟩ => by cases h; exact k _ H (Same.refl H) rfl)
theorem pd_glob {x : Str} {v : V} {u : Value} {d : PyData} (hg : Gl X x) (hm : X.mg x = some u) (r : RelV v u) (hr : ∀ H, Rep X.K H d v) (hd : (x == ("__debug__" : Str)) = false := by decide) : PD X (.Name x pos) (cst d) := by
  with_unfolding_all exact (PE.imp (pe_glob hg hm r hd) fun σ H Q ⟨ρ, d', e, h, k⟩ => by cases h; exact k _ H (Same.refl H) (hr H))

noncomputable def op2 (g : PyData → PyData → Option PyData) (fa fb : Rho → Option PyData) : Rho → Option PyData := fun ρ => (fa ρ).bind fun x => (fb ρ).bind fun y => g x y
noncomputable def OpD (X : Cx) (f : Value → Value → Sem Value) (g : PyData → PyData → Option PyData) : Prop :=
  ∃ r, OpR X f r ∧ ∀ p q d x y H Q, g p q = some d → Rep X.K H p x → Rep X.K H q y → (∀ v H', Same H H' → Rep X.K H' d v → Q v H') → r x y H Q
theorem seq2 {g : PyData → PyData → Option PyData} {K : PySem.W.Frag} {r : R2} (hr : ∀ p q d x y H Q, g p q = some d → Rep K H p x → Rep K H q y → (∀ v H', Same H H' → Rep K H' d v → Q v H') → r x y H Q)
    {σ : St} {H : Hp} {Q : VK} (h : tD K (op2 g fa fb) σ H Q) : tOp r (tD K fa) (tD K fb) σ H Q := by
  obtain ⟨ρ, d, e, h, k⟩ := h
  unfold op2 at h
  cases ha : fa ρ with
  | none => rw [ha] at h; cases h
  | some p =>
    rw [ha] at h
    cases hb : fb ρ with
    | none => rw [hb] at h; cases h
    | some q =>
      rw [hb] at h
      refine ⟨ρ, p, e, ha, fun x H1 s1 r1 => ⟨ρ, q, e.mono s1, hb, fun y H2 s2 r2 => ?_⟩⟩
      exact hr p q d x y H2 Q h (Rep.mono s2 p x r1) r2 fun v H' s3 r3 => k v H' (s1.trans (s2.trans s3)) r3
theorem pd_bin {op : Operator} {g : PyData → PyData → Option PyData} (ho : OpD X (binaryOp op) g) (ha : PD X a fa) (hb : PD X b fb) : PD X (.BinOp a op b pos) (op2 g fa fb) := by
  with_unfolding_all
   obtain ⟨r, h1, h2⟩ := ho
   exact PE.imp (pe_op h1 ha hb) fun σ H Q h => seq2 h2 h
theorem pd_cmp {op : CmpOp} {g : PyData → PyData → Option PyData} (ho : OpD X (compareOp op) g) (ha : PD X a fa) (hb : PD X b fb) (hm : behindInMarks op b = false := by first | exact nomark _ | with_unfolding_all rfl) : PD X (.Compare a [op] [b] pos) (op2 g fa fb) := by
  with_unfolding_all
   obtain ⟨r, h1, h2⟩ := ho
   exact PE.imp (pe_cmpR h1 ha hb hm) fun σ H Q h => seq2 h2 h
noncomputable def asB : PyData → Option Bool
  | .bool b => some b
  | _ => none
noncomputable def tst (f : Rho → Option PyData) : Rho → Option Bool := fun ρ => (f ρ).bind asB
theorem asB_some {d : PyData} {b : Bool} (h : asB d = some b) : d = .bool b := by
  cases d <;> simp [asB] at h
  rw [h]
theorem ptd_cmp {op : CmpOp} {g : PyData → PyData → Option PyData} (ho : OpD X (compareOp op) g) (ha : PD X a fa) (hb : PD X b fb) (hm : behindInMarks op b = false := by first | exact nomark _ | with_unfolding_all rfl) : PTD X (.Compare a [op] [b] pos) (tst (op2 g fa fb)) := by
  with_unfolding_all
   obtain ⟨r, h1, h2⟩ := ho
   refine PT.imp (pt_cmpR h1 ha hb hm) fun σ H Q ⟨ρ, t, e, h, k⟩ => ?_
   cases hd : op2 g fa fb ρ with
   | none => simp [tst, hd] at h
   | some d =>
     have ht : d = .bool t := asB_some (by simpa [tst, hd] using h)
     subst ht
     exact seq2 h2 ⟨ρ, _, e, hd, fun v H' s r => ⟨t, r, k H' s⟩⟩
theorem ptd_val (h : PD X e fa) (he : ∀ whole, isTrue e X.env whole = (do let v ← whole; standAt e.pos; holding [v] (truthy v)) := by intro _; rfl) : PTD X e (tst fa) := by
  with_unfolding_all
   refine PT.imp (pt_val h he) fun σ H Q ⟨ρ, t, e, h, k⟩ => ?_
   cases hd : fa ρ with
   | none => simp [tst, hd] at h
   | some d =>
     have ht : d = .bool t := asB_some (by simpa [tst, hd] using h)
     subst ht
     exact ⟨ρ, _, e, hd, fun v H' s r => ⟨t, r, k H' s⟩⟩

variable {ta tb : Rho → Option Bool} {rest : List Expr}
@[irreducible] noncomputable def PWD (X : Cx) (e : Expr) (f : Rho → Option Bool) : Prop := PW X e (tDT X.K f)
theorem PW.imp {t t' : TT} (h : PW X e t) (hi : ∀ σ H Q, t' σ H Q → t σ H Q) : PW X e t' := fun wh pins s σ H Q I q => h wh pins s σ H Q I (hi σ H Q q)
noncomputable def andB (ta tb : Rho → Option Bool) : Rho → Option Bool := fun ρ => (ta ρ).bind fun x => if x = true then tb ρ else some false
noncomputable def orB (ta tb : Rho → Option Bool) : Rho → Option Bool := fun ρ => (ta ρ).bind fun x => if x = true then some true else tb ρ
noncomputable def notB (ta : Rho → Option Bool) : Rho → Option Bool := fun ρ => (ta ρ).map (!·)
theorem pwd_or1 (ha : PTD X a ta) : PWD X (.BoolOp .Or [a] pos) ta := by
  with_unfolding_all exact (pw_or1 ha)
theorem pwd_or (ha : PTD X a ta) (hb : PWD X (.BoolOp .Or (b :: rest) pos) tb) : PWD X (.BoolOp .Or (a :: b :: rest) pos) (orB ta tb) := by
  with_unfolding_all
   refine PW.imp (pw_or ha hb) fun σ H Q ⟨ρ, t, e, h, k⟩ => ?_
   cases h1 : ta ρ with
   | none => simp [orB, h1] at h
   | some x =>
     refine ⟨ρ, x, e, h1, fun H' s => ?_⟩
     cases x with
     | false => rw [if_neg Bool.false_ne_true]; exact ⟨ρ, t, e.mono s, by simpa [orB, h1] using h, fun H2 s2 => k H2 (s.trans s2)⟩
     | true =>
       rw [if_pos rfl]
       have : t = true := by simpa [orB, h1] using h.symm
       subst this
       exact k H' s
theorem ptd_bool {op : BoolOp} {l : List Expr} (h : PWD X (.BoolOp op l pos) ta) : PTD X (.BoolOp op l pos) ta := by
  with_unfolding_all exact (h.pt)
theorem ptd_not (ha : PTD X a ta) : PTD X (.UnaryOp .Not a pos) (notB ta) := by
  with_unfolding_all
   refine PT.imp (pt_not ha) fun σ H Q ⟨ρ, t, e, h, k⟩ => ?_
   cases h1 : ta ρ with
   | none => simp [notB, h1] at h
   | some x =>
     have : (!x) = t := by simpa [notB, h1] using h
     subst this
     exact ⟨ρ, x, e, h1, fun H' s => k H' s⟩
noncomputable def ifD (tc : Rho → Option Bool) (fa fb : Rho → Option PyData) : Rho → Option PyData := fun ρ => (tc ρ).bind fun x => if x = true then fa ρ else fb ρ
theorem pd_if {tc : Rho → Option Bool} (hc : PTD X c tc) (ha : PD X a fa) (hb : PD X b fb) : PD X (.IfExp c a b pos) (ifD tc fa fb) := by
  with_unfolding_all
   refine PE.imp (pe_ifExp hc ha hb) fun σ H Q ⟨ρ, d, e, h, k⟩ => ?_
   cases h1 : tc ρ with
   | none => simp [ifD, h1] at h
   | some x =>
     refine ⟨ρ, x, e, h1, fun H' s => ?_⟩
     cases x with
     | true => rw [if_pos rfl]; exact ⟨ρ, d, e.mono s, by simpa [ifD, h1] using h, fun v H2 s2 => k v H2 (s.trans s2)⟩
     | false => rw [if_neg Bool.false_ne_true]; exact ⟨ρ, d, e.mono s, by simpa [ifD, h1] using h, fun v H2 s2 => k v H2 (s.trans s2)⟩

noncomputable def nilA (_ : Rho) : Option (List PyData) := some []
noncomputable def consA (fa : Rho → Option PyData) (fr : Rho → Option (List PyData)) : Rho → Option (List PyData) := fun ρ => (fa ρ).bind fun x => (fr ρ).map fun r => x :: r
theorem pad_nil : PAD X [] nilA := by
  with_unfolding_all exact (PA.imp pa_nil fun σ H Q ⟨ρ, d, e, h, k⟩ => by cases h; exact k [] H (Same.refl H) rfl)
theorem pad_cons {fr : Rho → Option (List PyData)} (ha : PD X e fa) (hr : PAD X es fr) (hs : starEach (e :: es) X.env = (false, eval e X.env) :: starEach es X.env := by rfl) : PAD X (e :: es) (consA fa fr) := by
  with_unfolding_all
   refine PA.imp (pa_cons ha hr hs) fun σ H Q ⟨ρ, ds, en, h, k⟩ => ?_
   cases h1 : fa ρ with
   | none => simp [consA, h1] at h
   | some x =>
     cases h2 : fr ρ with
     | none => simp [consA, h1, h2] at h
     | some r =>
       have : x :: r = ds := by simpa [consA, h1, h2] using h
       subst this
       exact ⟨ρ, x, en, h1, fun v H1 s1 r1 => ⟨ρ, r, en.mono s1, h2, fun vs H2 s2 r2 => k _ H2 (s1.trans s2) ⟨v, vs, rfl, Rep.mono s2 x v r1, r2⟩⟩⟩
noncomputable def few (ds : List PyData) : Bool := decide (ds.length < 1000000)
theorem few_le {n : Nat} (h : n < 1000000) : n ≤ sizeLine := Nat.le_of_lt (Nat.lt_of_lt_of_le h (by rw [sizeLine_eq]; decide))
theorem same_upd {H : Hp} {p : Addr} {o : HO} (hp : H p = none) : Same H (upd H p o) := fun b u h => by rw [upd_ne (ne_of_none h hp)]; exact h
noncomputable def tupD (fr : Rho → Option (List PyData)) : Rho → Option PyData := fun ρ => (fr ρ).bind fun ds => if few ds = true then some (.tuple ds) else none
noncomputable def lstD (fr : Rho → Option (List PyData)) : Rho → Option PyData := fun ρ => (fr ρ).bind fun ds => if few ds = true then some (.list ds) else none
theorem pd_tup {x1} {fr : Rho → Option (List PyData)} (h : PAD X es fr) : PD X (.Tuple es x1 pos) (tupD fr) := by
  with_unfolding_all
   refine PE.imp (pe_tup h) fun σ H Q ⟨ρ, d, e, h, k⟩ => ?_
   cases h1 : fr ρ with
   | none => simp [tupD, h1] at h
   | some ds =>
     by_cases hf : few ds = true
     · have : PyData.tuple ds = d := by simpa [tupD, h1, hf] using h
       subst this
       refine ⟨ρ, ds, e, h1, fun vs H1 s1 r1 => ⟨few_le (by rw [r1.length]; simpa [few] using hf), fun p hp => k _ _ (s1.trans (same_upd hp)) ⟨p, vs, rfl, SqT.of upd_same, Reps.mono (same_upd hp) _ _ r1⟩⟩⟩
     · simp [tupD, h1, hf] at h
theorem pd_lst {fr : Rho → Option (List PyData)} (h : PAD X es fr) : PD X (.List es pos) (lstD fr) := by
  with_unfolding_all
   refine PE.imp (pe_lst h) fun σ H Q ⟨ρ, d, e, h, k⟩ => ?_
   cases h1 : fr ρ with
   | none => simp [lstD, h1] at h
   | some ds =>
     by_cases hf : few ds = true
     · have : PyData.list ds = d := by simpa [lstD, h1, hf] using h
       subst this
       refine ⟨ρ, ds, e, h1, fun vs H1 s1 r1 => ⟨few_le (by rw [r1.length]; simpa [few] using hf), fun p hp => k _ _ (s1.trans (same_upd hp)) ⟨p, vs, rfl, upd_same, Reps.mono (same_upd hp) _ _ r1⟩⟩⟩
     · simp [lstD, h1, hf] at h
end
end BX

end
section
set_option Elab.async false
set_option linter.all false
set_option maxRecDepth 100000
set_option maxHeartbeats 4000000
namespace BX
open PySem PySem.Spec L2
open PyProof.Rows hiding St

section
variable {X : Cx} {e a b c tg src : Expr} {es : List Expr} {st : Stmt} {sts rest : List Stmt} {fa fb fc : Rho → Option PyData} {F G : Rho → Option Out} {pos : Pos}

noncomputable def retD (fa : Rho → Option PyData) : Rho → Option Out := fun ρ => (fa ρ).map Out.rt
theorem psd_ret (h : PD X e fa) : PSD X (.Return (some e) pos) (retD fa) := by
  with_unfolding_all
   refine PS.imp (ps_ret h) fun D σ H ⟨ρ, o, en, q, k⟩ => ?_
   cases h1 : fa ρ with
   | none => simp [retD, h1] at q
   | some d =>
     have : Out.rt d = o := by simpa [retD, h1] using q
     subst this
     exact ⟨ρ, d, en, h1, k⟩
noncomputable def ifS (tc : Rho → Option Bool) (F G : Rho → Option Out) : Rho → Option Out := fun ρ => (tc ρ).bind fun x => if x = true then F ρ else G ρ
theorem psd_if {l r : List Stmt} {tc : Rho → Option Bool} (hc : PTD X c tc) (hl : PSsD X l F) (hr : PSsD X r G) : PSD X (.If c l r pos) (ifS tc F G) := by
  with_unfolding_all
   refine PS.imp (ps_if hc hl hr) fun D σ H ⟨ρ, o, en, q, k⟩ => ?_
   cases h1 : tc ρ with
   | none => simp [ifS, h1] at q
   | some x =>
     refine ⟨ρ, x, en, h1, fun H1 s1 => ?_⟩
     cases x with
     | true => rw [if_pos rfl]; exact ⟨ρ, o, en.mono s1, by simpa [ifS, h1] using q, k.mono s1⟩
     | false => rw [if_neg Bool.false_ne_true]; exact ⟨ρ, o, en.mono s1, by simpa [ifS, h1] using q, k.mono s1⟩
noncomputable def nxtS : Rho → Option Out := fun ρ => some (.nx ρ)
noncomputable def seqS (F G : Rho → Option Out) : Rho → Option Out := fun ρ => (F ρ).bind fun o => match o with
  | .nx ρ' => G ρ'
  | o => some o
theorem pssd_nil : PSsD X [] nxtS := by
  with_unfolding_all
   refine PSs.imp pss_nil fun D σ H ⟨ρ, o, en, q, k⟩ => ?_
   cases q
   exact k σ H (Same.refl H) en
theorem pssd_cons (h1 : PSD X st F) (h2 : PSsD X rest G) : PSsD X (st :: rest) (seqS F G) := by
  with_unfolding_all
   refine PSs.imp (pss_cons h1 h2) fun D σ H ⟨ρ, o, en, q, k⟩ => ?_
   cases hf : F ρ with
   | none => simp [seqS, hf] at q
   | some p =>
     refine ⟨ρ, p, en, hf, ?_⟩
     cases p with
     | nx ρ' => exact fun σ' H' s' r' => ⟨ρ', o, r', by simpa [seqS, hf] using q, k.mono s'⟩
     | rt d => have : Out.rt d = o := by simpa [seqS, hf] using q
               subst this; exact k
     | bk d => have : Out.bk d = o := by simpa [seqS, hf] using q
               subst this; exact k
     | ct d => have : Out.ct d = o := by simpa [seqS, hf] using q
               subst this; exact k
noncomputable def nevS : Rho → Option Out := fun _ => none
theorem psd_never : PSD X st nevS := by
  with_unfolding_all exact (PS.imp ps_never fun D σ H ⟨ρ, o, en, q, k⟩ => by cases q)
theorem pssd_never : PSsD X sts nevS := by
  with_unfolding_all exact (PSs.imp pss_never fun D σ H ⟨ρ, o, en, q, k⟩ => by cases q)
noncomputable def drpS (fa : Rho → Option PyData) : Rho → Option Out := fun ρ => (fa ρ).map fun _ => .nx ρ
theorem psd_expr (h : PD X e fa) (hs : swapsWith e none pos.line X.env = pure false := by rfl) : PSD X (.Expr e pos) (drpS fa) := by
  with_unfolding_all
   refine PS.imp (ps_expr h hs) fun D σ H ⟨ρ, o, en, q, k⟩ => ?_
   cases h1 : fa ρ with
   | none => simp [drpS, h1] at q
   | some d =>
     have : Out.nx ρ = o := by simpa [drpS, h1] using q
     subst this
     exact ⟨ρ, d, en, h1, fun v H' s r => k σ H' s (en.mono s)⟩

noncomputable def asgN (i : Nat) (d : PyData) (ρ : Rho) : Option Rho := some (ρ.set i (some d))
theorem pgd_name (i : Nat) {x : Str} (hN : X.N.Nodup) (hi : X.N[i]? = some x := by rfl) (hx : Loc X.env.scope x := by first | exact Or.inl rfl | exact Or.inr rfl)
    (hf : X.fn x = true ∨ X.env.scope.names.lookup x = some .local := by first | exact .inl rfl | exact .inr rfl | assumption) : PGD X (.Name x pos) (asgN i) := by
  with_unfolding_all
   refine PG.imp (pg_name hN hi hx hf) fun v σ H Q ⟨ρ, d, ρ', en, r, q, k⟩ => ?_
   cases q
   exact k _ H (Same.refl H) (en.set r)
@[irreducible] noncomputable def PGsD (X : Cx) (ts : List Expr) (ga : List PyData → Rho → Option Rho) : Prop := PGs X ts fun vs σ H Q => ∃ ρ ds ρ', EnvR X.K H ρ σ ∧ Reps X.K H ds vs ∧ ga ds ρ = some ρ' ∧ ∀ σ' H', Same H H' → EnvR X.K H' ρ' σ' → Q σ' H'
noncomputable def asgNil (ds : List PyData) (ρ : Rho) : Option Rho := match ds with
  | [] => some ρ
  | _ => none
noncomputable def asgCons (ga : PyData → Rho → Option Rho) (gr : List PyData → Rho → Option Rho) (ds : List PyData) (ρ : Rho) : Option Rho := match ds with
  | d :: r => (ga d ρ).bind fun ρ1 => gr r ρ1
  | [] => none
theorem PGs.imp {ts : List Expr} {t t' : TGs} (h : PGs X ts t) (hi : ∀ v σ H Q, t' v σ H Q → t v σ H Q) : PGs X ts t' := fun pins s σ H v u Q I r q => h pins s σ H v u Q I r (hi v σ H Q q)
theorem pgsd_nil : PGsD X [] asgNil := by
  with_unfolding_all
   refine PGs.imp pgs_nil fun vs σ H Q ⟨ρ, ds, ρ', en, r, q, k⟩ => ?_
   cases ds with
   | nil => cases r; cases q; exact ⟨rfl, k σ H (Same.refl H) en⟩
   | cons d ds => cases q
theorem pgsd_cons {ga : PyData → Rho → Option Rho} {gr : List PyData → Rho → Option Rho} (h1 : PGD X e ga) (h2 : PGsD X es gr)
    (hs : (assignEach (e :: es) X.env).map (·.2) = assign e X.env :: (assignEach es X.env).map (·.2) := by rfl) : PGsD X (e :: es) (asgCons ga gr) := by
  with_unfolding_all
   refine PGs.imp (pgs_cons h1 h2 hs) fun vs σ H Q ⟨ρ, ds, ρ', en, r, q, k⟩ => ?_
   cases ds with
   | nil => cases q
   | cons d ds =>
     obtain ⟨x, rr, e1, r1, r2⟩ := r
     subst e1
     cases h3 : ga d ρ with
     | none => simp [asgCons, h3] at q
     | some ρ1 =>
       refine ⟨x, rr, rfl, ρ, d, ρ1, en, r1, h3, fun σ1 H1 s1 e1 => ⟨ρ1, ds, ρ', e1, Reps.mono s1 ds rr r2, by simpa [asgCons, h3] using q, fun σ2 H2 s2 e2 => k σ2 H2 (s1.trans s2) e2⟩⟩
noncomputable def asgT (n : Nat) (gr : List PyData → Rho → Option Rho) (d : PyData) (ρ : Rho) : Option Rho := match d with
  | .tuple ds => if ds.length = n then gr ds ρ else none
  | _ => none
theorem pgd_tup {k n : Nat} {gr : List PyData → Rho → Option Rho} (hc : X.calm = true) (h : PGsD X es gr) (hn : (assignEach es X.env).length = n := by rfl) (hst : (assignEach es X.env).findIdx? (·.1) = none := by rfl) :
    PGD X (.Tuple es k pos) (asgT n gr) := by
  with_unfolding_all
   refine PG.imp (pg_tup hc h hn hst) fun v σ H Q ⟨ρ, d, ρ', en, r, q, k⟩ => ?_
   cases d with
   | tuple ds =>
     obtain ⟨a, xs, e1, e2, e3⟩ := r
     by_cases hl : ds.length = n
     · exact ⟨a, xs, e1, e2, by rw [e3.length]; exact hl, ρ, ds, ρ', en, e3, by simpa [asgT, hl] using q, k⟩
     · simp [asgT, hl] at q
   | _ => simp [asgT] at q
noncomputable def asgS (fa : Rho → Option PyData) (ga : PyData → Rho → Option Rho) : Rho → Option Out := fun ρ => (fa ρ).bind fun d => (ga d ρ).map Out.nx
theorem psd_asg {ga : PyData → Rho → Option Rho} (he : PD X e fa) (hg : PGD X tg ga) (hs : swapsWithSole [tg] e pos.line X.env = pure false := by rfl) (hw : swappedStores [tg] e X.env = pure none := by rfl)
    (h1 : (assignEach [tg] X.env).map (·.2) = [assign tg X.env] := by rfl) : PSD X (.Assign [tg] e pos) (asgS fa ga) := by
  with_unfolding_all
   refine PS.imp (ps_asg he hg hs hw h1) fun D σ H ⟨ρ, o, en, q, k⟩ => ?_
   cases h1 : fa ρ with
   | none => simp [asgS, h1] at q
   | some d =>
     cases h2 : ga d ρ with
     | none => simp [asgS, h1, h2] at q
     | some ρ' =>
       have : Out.nx ρ' = o := by simpa [asgS, h1, h2] using q
       subst this
       exact ⟨ρ, d, en, h1, fun v H1 s1 r1 => ⟨ρ, d, ρ', en.mono s1, r1, h2, fun σ' H' s' e' => k σ' H' (s1.trans s') e'⟩⟩
theorem psd_set (i : Nat) {x : Str} {pos' : Pos} (hN : X.N.Nodup) (he : PD X e fa) (hi : X.N[i]? = some x := by rfl) (hx : Loc X.env.scope x := by first | exact Or.inl rfl | exact Or.inr rfl) (hs : swapsWith e (some (.Name x pos')) pos.line X.env = pure false := by rfl)
    (hf : X.fn x = true ∨ X.env.scope.names.lookup x = some .local := by first | exact .inl rfl | exact .inr rfl | assumption) : PSD X (.Assign [.Name x pos'] e pos) (asgS fa (asgN i)) := by
  with_unfolding_all
   refine PS.imp (ps_set hN hi hx he hs hf) fun D σ H ⟨ρ, o, en, q, k⟩ => ?_
   cases h1 : fa ρ with
   | none => simp [asgS, h1] at q
   | some d =>
     have : Out.nx (ρ.set i (some d)) = o := by simpa [asgS, h1, asgN] using q
     subst this
     exact ⟨ρ, d, en, h1, fun v H1 s1 r1 => k _ H1 s1 ((en.mono s1).set r1)⟩

noncomputable def Yields (K : PySem.W.Frag) (J : It) (ds : List PyData) (H0 : Hp) : Prop := ∀ i H, SameE H0 H → (i < ds.length → J.go i H) ∧ (ds.length ≤ i → J.stop i H) ∧ ∀ x H', J.yld i H x H' → Same H H' ∧ ∀ d, ds[i]? = some d → Rep K H' d x
noncomputable def tDI (K : PySem.W.Frag) (fi : Rho → Option (List PyData)) : TI := fun σ H R => ∃ ρ ds, EnvR K H ρ σ ∧ fi ρ = some ds ∧ ∀ J H', Same H H' → Yields K J ds H' → R J H'
@[irreducible] noncomputable def PID (X : Cx) (tg src : Expr) (fi : Rho → Option (List PyData)) : Prop := PI X tg src (tDI X.K fi)
theorem PI.imp {t t' : TI} (h : PI X tg src t) (hi : ∀ σ H R, t' σ H R → t σ H R) : PI X tg src t' := fun pins s σ H R I q => h pins s σ H R I (hi σ H R q)
noncomputable def itemsL : PyData → Option (List PyData)
  | .list ds => some ds
  | _ => none
noncomputable def itemsT : PyData → Option (List PyData)
  | .tuple ds => some ds
  | _ => none
noncomputable def itL (fa : Rho → Option PyData) : Rho → Option (List PyData) := fun ρ => (fa ρ).bind itemsL
noncomputable def itT (fa : Rho → Option PyData) : Rho → Option (List PyData) := fun ρ => (fa ρ).bind itemsT
theorem pid_list (h : PD X e fa) : PID X tg e (itL fa) := by
  with_unfolding_all
   refine PI.imp (pi_list h) fun σ H R ⟨ρ, ds, en, q, k⟩ => ?_
   cases h1 : fa ρ with
   | none => simp [itL, h1] at q
   | some d =>
     cases d with
     | list es =>
       have : es = ds := by simpa [itL, h1, itemsL] using q
       subst this
       refine ⟨ρ, _, en, h1, fun v H1 s1 r1 => ?_⟩
       obtain ⟨a, xs, e1, e2, e3⟩ := r1
       refine ⟨a, e1, ⟨xs, SqL.of e2⟩, k _ H1 s1 fun i H2 s2 => ⟨fun hi => ?_, fun hi => ?_, fun x H' y => ?_⟩⟩
       · exact ⟨xs, xs[i]'(by rw [e3.length]; exact hi), SqL.of (s2 _ _ e2 fun _ z => nomatch z), by simp [e3.length, hi]⟩
       · exact ⟨xs, SqL.of (s2 _ _ e2 fun _ z => nomatch z), by rw [e3.length]; exact hi⟩
       · obtain ⟨z1, z2⟩ := y
         subst z1
         refine ⟨Same.refl _, fun d hd => ?_⟩
         obtain ⟨y, e4, e5⟩ := (Reps.monoE s2 _ _ e3).get hd
         have := z2 xs (SqL.of (s2 _ _ e2 fun _ z => nomatch z))
         rw [e4] at this; cases this
         exact e5
     | _ => simp [itL, h1, itemsL] at q
theorem pid_tup (h : PD X e fa) : PID X tg e (itT fa) := by
  with_unfolding_all
   refine PI.imp (pi_tup h) fun σ H R ⟨ρ, ds, en, q, k⟩ => ?_
   cases h1 : fa ρ with
   | none => simp [itT, h1] at q
   | some d =>
     cases d with
     | tuple es =>
       have : es = ds := by simpa [itT, h1, itemsT] using q
       subst this
       refine ⟨ρ, _, en, h1, fun v H1 s1 r1 => ?_⟩
       obtain ⟨a, xs, e1, e2, e3⟩ := r1
       refine ⟨a, e1, ⟨xs, e2⟩, k _ H1 s1 fun i H2 s2 => ⟨fun hi => ?_, fun hi => ?_, fun x H' y => ?_⟩⟩
       · exact ⟨xs, xs[i]'(by rw [e3.length]; exact hi), SameE.tup s2 e2, by simp [e3.length, hi]⟩
       · exact ⟨xs, SameE.tup s2 e2, by rw [e3.length]; exact hi⟩
       · obtain ⟨z1, z2⟩ := y
         subst z1
         refine ⟨Same.refl _, fun d hd => ?_⟩
         obtain ⟨y, e4, e5⟩ := (Reps.monoE s2 _ _ e3).get hd
         have := z2 xs (SameE.tup s2 e2)
         rw [e4] at this; cases this
         exact e5
     | _ => simp [itT, h1, itemsT] at q
noncomputable def rngL (lo : Int) (n : Nat) : List PyData := (List.range n).map fun (k : Nat) => PyData.int (lo + (k : Int))
noncomputable def rng1 (ds : List PyData) : Option (List PyData) := match ds with
  | [.int j] => if -(2 ^ 62) ≤ j ∧ j < 2 ^ 62 then some (rngL 0 j.toNat) else none
  | _ => none
theorem yields_range {K : PySem.W.Frag} {H : Hp} (lo : Int) (n : Nat) : Yields K (Itr lo n) (rngL lo n) H := fun i H2 s2 => by
  have hl : (rngL lo n).length = n := by simp [rngL]
  refine ⟨fun hi => by rw [hl] at hi; exact hi, fun hi => by rw [hl] at hi; exact hi, fun x H' y => ?_⟩
  obtain ⟨z1, z2⟩ := y
  subst z1
  refine ⟨Same.refl _, fun d hd => ?_⟩
  have hi : i < n := by
    have := (List.getElem?_eq_some_iff.mp hd).1
    rw [hl] at this; exact this
  have : d = .int (lo + i) := by
    simp [rngL, hi] at hd
    exact hd.symm
  subst this
  exact z2
theorem pid_range1 {p pos : Pos} {fr : Rho → Option (List PyData)} (hg : Gl X "range") (hm : X.mg "range" = none) (ha : PAD X [a] fr) (hs : starEach [a] X.env = [(false, eval a X.env)] := by rfl) : PID X tg (.Call (.Name "range" p) [a] [] pos) (fun ρ => (fr ρ).bind rng1) := by
  with_unfolding_all
   refine PI.imp (pi_range1 hg hm ha hs) fun σ H R ⟨ρ, ds, en, q, k⟩ => ?_
   cases h1 : fr ρ with
   | none => simp [h1] at q
   | some as =>
     have q' : rng1 as = some ds := by simpa [h1] using q
     refine ⟨ρ, as, en, h1, fun vs H1 s1 r1 => ?_⟩
     unfold rng1 at q'
     split at q'
     · rename_i j
       split at q'
       · rename_i hj
         cases q'
         obtain ⟨x, r, e1, e2, e3⟩ := r1
         cases (show x = V.int j from e2)
         cases (show r = [] from e3)
         exact ⟨j, e1, hj.1, hj.2, k _ H1 s1 (yields_range 0 j.toNat)⟩
       · cases q'
     · cases q'

noncomputable def loopD (ga : PyData → Rho → Option Rho) (F : Rho → Option Out) : List PyData → Rho → Option Out
  | [], ρ => some (.nx ρ)
  | d :: r, ρ => (ga d ρ).bind fun ρ1 => (F ρ1).bind fun o => match o with
    | .nx ρ2 => loopD ga F r ρ2
    | .ct ρ2 => loopD ga F r ρ2
    | .bk ρ2 => some (.nx ρ2)
    | .rt d => some (.rt d)
noncomputable def forS (fi : Rho → Option (List PyData)) (ga : PyData → Rho → Option Rho) (F : Rho → Option Out) : Rho → Option Out := fun ρ => (fi ρ).bind fun ds => loopD ga F ds ρ
theorem psd_for {body : List Stmt} {fi : Rho → Option (List PyData)} {ga : PyData → Rho → Option Rho} (hp : PassesOwn (model X.prog X.w) X.A X.env X.xe) (hc : X.calm = true) (hi : PID X tg src fi) (hg : PGD X tg ga) (hb : PSsD X body F)
    (hs : ∀ x, foldedSetIterable src X.env x = pure x := by intro _; rfl) : PSD X (.For tg src body [] pos) (forS fi ga F) := by
  with_unfolding_all
   refine PS.imp (ps_for hp hc hi hg hb hs) fun D σ H ⟨ρ, o, en, q, k⟩ => ?_
   cases h1 : fi ρ with
   | none => simp [forS, h1] at q
   | some ds =>
     have q' : loopD ga F ds ρ = some o := by simpa [forS, h1] using q
     refine ⟨ρ, ds, en, h1, fun J H1 s1 Y => ?_⟩
     refine ⟨fun i m σ H2 => m = ds.length - i ∧ i ≤ ds.length ∧ Same H1 H2 ∧ ∃ ρ2, EnvR X.K H2 ρ2 σ ∧ loopD ga F (ds.drop i) ρ2 = some o, ⟨ds.length, by simp, Nat.zero_le _, Same.refl _, ρ, en.mono s1, by simpa using q'⟩, ?_⟩
     rintro i m σ2 H2 ⟨rfl, hi, s2, ρ2, en2, q2⟩
     obtain ⟨g1, g2, g3⟩ := Y i H2 (Same.e s2)
     by_cases hlt : i < ds.length
     · right
       have hd : ds.drop i = ds[i] :: ds.drop (i + 1) := List.drop_eq_getElem_cons hlt
       rw [hd] at q2
       refine ⟨g1 hlt, fun σ3 H3 => Same H1 H3 ∧ ∃ ρ3, EnvR X.K H3 ρ3 σ3 ∧ loopD ga F (ds.drop (i + 1)) ρ3 = some o, fun σ3 H3 ⟨a1, ρ3, a2, a3⟩ => ⟨ds.length - (i + 1), by omega, rfl, hlt, a1, ρ3, a2, a3⟩, fun x H3 y => ?_⟩
       obtain ⟨s3, r3⟩ := g3 x H3 y
       have r3' := r3 ds[i] (by simp [hlt])
       cases h4 : ga ds[i] ρ2 with
       | none => simp [loopD, h4] at q2
       | some ρ4 =>
         refine ⟨ρ2, ds[i], ρ4, en2.mono s3, r3', h4, fun σ5 H5 s5 en5 => ?_⟩
         cases h5 : F ρ4 with
         | none => simp [loopD, h4, h5] at q2
         | some p =>
           refine ⟨ρ4, p, en5, h5, ?_⟩
           have s15 := s2.trans (s3.trans s5)
           cases p with
           | nx ρ6 => exact fun σ6 H6 s6 en6 => ⟨s15.trans s6, ρ6, en6, by simpa [loopD, h4, h5] using q2⟩
           | ct ρ6 => exact fun σ6 H6 s6 en6 => ⟨s15.trans s6, ρ6, en6, by simpa [loopD, h4, h5] using q2⟩
           | bk ρ6 =>
             have : Out.nx ρ6 = o := by simpa [loopD, h4, h5] using q2
             subst this
             exact fun σ6 H6 s6 en6 => k σ6 H6 (s1.trans (s15.trans s6)) en6
           | rt d =>
             have : Out.rt d = o := by simpa [loopD, h4, h5] using q2
             subst this
             exact fun v H6 s6 r6 => k v H6 (s1.trans (s15.trans s6)) r6
     · left
       have he : i = ds.length := by omega
       have hn : ds.drop i = [] := by rw [he]; simp
       rw [hn] at q2
       have : Out.nx ρ2 = o := by simpa [loopD] using q2
       subst this
       exact ⟨g2 (by omega), k σ2 H2 (s1.trans s2) en2⟩

noncomputable def capR (cap : List (Option Nat)) (ρ : Rho) : Rho := cap.map fun o => o.bind fun i => (ρ[i]?).join
theorem EnvR.cap {K : PySem.W.Frag} {H : Hp} {ρ : Rho} {σ : St} (e : EnvR K H ρ σ) (cap : List (Option Nat)) : EnvR K H (capR cap ρ) (capS cap σ) := by
  refine ⟨by simp [capR, capS], fun j d q => ?_⟩
  unfold capR at q
  unfold capS
  rw [List.getElem?_map] at q ⊢
  cases h1 : cap[j]? with
  | none => rw [h1] at q; cases q
  | some o =>
    rw [h1] at q
    cases o with
    | none => cases q
    | some i =>
      have q' : lkp i ρ = some d := by simpa [lkp] using q
      obtain ⟨v, e1, e2⟩ := e.at' i d (lkp_some q')
      exact ⟨v, by simp [e1], e2⟩
noncomputable def compL (ga : PyData → Rho → Option Rho) (ft : Rho → Option Bool) (fe : Rho → Option PyData) : List PyData → Rho → Option (List PyData)
  | [], _ => some []
  | d :: r, τ => (ga d τ).bind fun τ2 => (ft τ2).bind fun b => if b = true then (fe τ2).bind fun y => (compL ga ft fe r τ2).map fun ys => y :: ys else compL ga ft fe r τ2
noncomputable def compD (fi : Rho → Option (List PyData)) (cap : List (Option Nat)) (ga : PyData → Rho → Option Rho) (ft : Rho → Option Bool) (fe : Rho → Option PyData) : Rho → Option PyData := fun ρ => (fi ρ).bind fun ds =>
  if few ds = true then (compL ga ft fe ds (capR cap ρ)).map PyData.list else none
@[irreducible] noncomputable def PTsD (X : Cx) (ts : List Expr) (f : Rho → Option Bool) : Prop := PTs X ts (tDT X.K f)
noncomputable def truT (_ : Rho) : Option Bool := some true
theorem ptsd_nil : PTsD X [] truT := by
  with_unfolding_all exact (fun pins s σ H Q I ⟨ρ, b, en, q, k⟩ => by cases q; exact pts_nil pins s σ H Q I (k H (Same.refl H)))
theorem ptsd_one {ft : Rho → Option Bool} (h : PTD X c ft) : PTsD X [c] ft := by
  with_unfolding_all exact (pts_one h)
theorem pd_comp {el : Expr} {ts : List Expr} {sc : Scope} {ps : Pos} {fi : Rho → Option (List PyData)} {ga : PyData → Rho → Option Rho} {ft : Rho → Option Bool} {fe : Rho → Option PyData} (N' : List Str) (cap : List (Option Nat)) (hc : X.calm = true) (hi : PID X tg src fi) (ok : CompOk X sc N' cap)
    (body : ∀ cl C s0 H0 fp pn, PGD (blk X N' sc cl C s0 H0 fp pn) tg ga ∧ PTsD (blk X N' sc cl C s0 H0 fp pn) ts ft ∧ PD (blk X N' sc cl C s0 H0 fp pn) el fe)
    (hs : ∀ x, foldedSetIterable src X.env x = pure x := by intro _; rfl) : PD X (.ListComp el [⟨tg, src, ts, 0⟩] sc ps) (compD fi cap ga ft fe) := by
  with_unfolding_all
   refine PE.imp (pe_comp (g := tDG X.K ga) (tt := tDT X.K ft) (te := tD X.K fe) hc hi ok (fun cl C s0 H0 fp pn => body cl C s0 H0 fp pn) hs) fun σ H Q ⟨ρ, d, en, q, k⟩ => ?_
   cases h1 : fi ρ with
   | none => simp [compD, h1] at q
   | some ds =>
     by_cases hf : few ds = true
     · cases h2 : compL ga ft fe ds (capR cap ρ) with
       | none => simp [compD, h1, hf, h2] at q
       | some ys =>
         have : PyData.list ys = d := by simpa [compD, h1, hf, h2] using q
         subst this
         refine ⟨ρ, ds, en, h1, fun J H1 s1 Y => ?_⟩
         refine ⟨fun i m τ us H2 => m = ds.length - i ∧ i ≤ ds.length ∧ Same H1 H2 ∧ us.length ≤ i ∧ ∃ ρ2 zs ws, EnvR X.K H2 ρ2 τ ∧ Reps X.K H2 zs us ∧ compL ga ft fe (ds.drop i) ρ2 = some ws ∧ ys = zs ++ ws,
           ⟨ds.length, by simp, Nat.zero_le _, Same.refl _, Nat.le_refl _, capR cap ρ, [], ys, (en.mono s1).cap cap, rfl, by simpa using h2, rfl⟩, ?_⟩
         rintro i m τ us H2 ⟨rfl, hi', s2, hu, ρ2, zs, ws, en2, r2, q2, ey⟩
         have hsm : us.length < sizeLine := Nat.lt_of_le_of_lt (Nat.le_trans hu hi') (Nat.lt_of_lt_of_le (by simpa [few] using hf) (by rw [sizeLine_eq]; decide : 1000000 ≤ sizeLine))
         obtain ⟨g1, g2, g3⟩ := Y i H2 (Same.e s2)
         refine ⟨hsm, ?_⟩
         by_cases hlt : i < ds.length
         · right
           have hd : ds.drop i = ds[i] :: ds.drop (i + 1) := List.drop_eq_getElem_cons hlt
           rw [hd] at q2
           refine ⟨g1 hlt, fun x H3 y => ?_⟩
           obtain ⟨s3, r3⟩ := g3 x H3 y
           have r3' := r3 ds[i] (by simp [hlt])
           cases h4 : ga ds[i] ρ2 with
           | none => simp [compL, h4] at q2
           | some ρ4 =>
             refine ⟨ρ2, ds[i], ρ4, en2.mono s3, r3', h4, fun σ5 H5 s5 en5 => ?_⟩
             cases h5 : ft ρ4 with
             | none => simp [compL, h4, h5] at q2
             | some b =>
               refine ⟨ρ4, b, en5, h5, fun H6 s6 => ?_⟩
               have s26 := s3.trans (s5.trans s6)
               cases b with
               | false =>
                 refine iteF ?_
                 exact ⟨ds.length - (i + 1), by omega, rfl, hlt, s2.trans s26, by omega, ρ4, zs, ws, en5.mono s6, Reps.mono s26 _ _ r2, by simpa [compL, h4, h5] using q2, ey⟩
               | true =>
                 refine iteT ?_
                 cases h6 : fe ρ4 with
                 | none => simp [compL, h4, h5, h6] at q2
                 | some y =>
                   cases h7 : compL ga ft fe (ds.drop (i + 1)) ρ4 with
                   | none => simp [compL, h4, h5, h6, h7] at q2
                   | some ws' =>
                     have hw : y :: ws' = ws := by simpa [compL, h4, h5, h6, h7] using q2
                     refine ⟨ρ4, y, en5.mono s6, h6, fun v H7 s7 r7 => ?_⟩
                     refine ⟨ds.length - (i + 1), by omega, rfl, hlt, s2.trans (s26.trans s7), by rw [List.length_append]; simp; omega, ρ4, zs ++ [y], ws', (en5.mono s6).mono s7, (Reps.mono (s26.trans s7) _ _ r2).append ⟨v, [], rfl, r7, rfl⟩, h7, ?_⟩
                     rw [ey, ← hw]; simp
         · left
           have he : i = ds.length := by omega
           have hn : ds.drop i = [] := by rw [he]; simp
           rw [hn] at q2
           have hw : [] = ws := by simpa [compL] using q2
           subst hw
           have ey' : ys = zs := by simpa using ey
           subst ey'
           exact ⟨g2 (by omega), fun l hl => k _ _ (s1.trans (s2.trans (same_upd hl))) ⟨l, us, rfl, upd_same, Reps.mono (same_upd hl) _ _ r2⟩⟩
     · simp [compD, h1, hf] at q

noncomputable def Pur (K : PySem.W.Frag) (n : Nat) (g : List PyData → Option PyData) : Sp := fun vs H Q _ => ∃ ds d, ds.length = n ∧ Reps K H ds vs ∧ g ds = some d ∧ ∀ v H', Same H H' → Rep K H' d v → Q v H'
noncomputable def calD (g : List PyData → Option PyData) (fr : Rho → Option (List PyData)) : Rho → Option PyData := fun ρ => (fr ρ).bind g
theorem pd_call {k n : Nat} {f : Addr} {fd : FuncData} {ps : List Str} {g : List PyData → Option PyData} {x : Str} {p : Pos} {fr : Rho → Option (List PyData)} (FO : FnOk X.prog X.w X.K X.mg X.base CX0 k f fd ps (Pur X.K n g)) (hr : Room k X.A) (hm : X.mg x = some (.ref f)) (hk : PySem.W.keepIn X.K (.ref f) = true)
    (hb : Binds X.K fd ps []) (hn : (e :: es).length = n) (ha : PAD X (e :: es) fr) (hl : ∀ ρ ds, fr ρ = some ds → ds.length = (e :: es).length) (hg : Gl X x := by rfl) (hdb : (x == ("__debug__" : Str)) = false := by decide) (he : starEach (e :: es) X.env = (false, eval e X.env) :: starEach es X.env := by rfl)
    (hpl : (backTo pos (starEach es X.env)).any (·.1) = false := by rfl) : PD X (.Call (.Name x p) (e :: es) [] pos) (calD g fr) := by
  with_unfolding_all
   refine PE.imp (pe_call FO hr hg hm hk hb .nil pass0 ha hdb he hpl) fun σ H Q ⟨ρ, d, en, q, k⟩ => ?_
   cases h1 : fr ρ with
   | none => simp [calD, h1] at q
   | some ds =>
     refine ⟨ρ, ds, en, h1, fun vs H1 s1 r1 => ?_⟩
     refine ⟨ds, d, by rw [hl ρ ds h1, hn], by rw [List.append_nil]; exact r1, by simpa [calD, h1] using q, fun v H' s r => k v H' (s1.trans s) r⟩
noncomputable def CallD (X : Cx) (f : Value) (g : List PyData → Option PyData) : Prop := ∃ r, CallR X f r ∧ ∀ ds d xs H Q, g ds = some d → Reps X.K H ds xs → (∀ v H', Same H H' → Rep X.K H' d v → Q v H') → r xs H Q
theorem pd_callB {id : String} {g : List PyData → Option PyData} {x : Str} {p : Pos} {fr : Rho → Option (List PyData)} (hc : CallD X (.builtin id) g) (hm : X.mg x = none) (hv : bootBuiltins x = some (.builtin id)) (ha : PAD X (e :: es) fr) (hg : Gl X x := by rfl) (hn : x ≠ "__name__" := by decide) (hdb : (x == ("__debug__" : Str)) = false := by decide)
    (he : starEach (e :: es) X.env = (false, eval e X.env) :: starEach es X.env := by rfl) (hpl : (backTo pos (starEach es X.env)).any (·.1) = false := by rfl) : PD X (.Call (.Name x p) (e :: es) [] pos) (calD g fr) := by
  with_unfolding_all
   obtain ⟨r, h1, h2⟩ := hc
   refine PE.imp (pe_callB h1 hg hm hv ha hn hdb he hpl) fun σ H Q ⟨ρ, d, en, q, k⟩ => ?_
   cases h3 : fr ρ with
   | none => simp [calD, h3] at q
   | some ds => exact ⟨ρ, ds, en, h3, fun vs H1 s1 r1 => h2 ds d vs H1 Q (by simpa [calD, h3] using q) r1 fun v H' s r => k v H' (s1.trans s) r⟩
theorem pd_callTy {T : String} {g : List PyData → Option PyData} {x : Str} {p : Pos} {fr : Rho → Option (List PyData)} (hc : CallD X (.type T) g) (hm : X.mg x = none) (hv : bootBuiltins x = some (.type T)) (ha : PAD X (e :: es) fr) (hg : Gl X x := by rfl) (hn : x ≠ "__name__" := by decide) (hdb : (x == ("__debug__" : Str)) = false := by decide)
    (he : starEach (e :: es) X.env = (false, eval e X.env) :: starEach es X.env := by rfl) (hpl : (backTo pos (starEach es X.env)).any (·.1) = false := by rfl) : PD X (.Call (.Name x p) (e :: es) [] pos) (calD g fr) := by
  with_unfolding_all
   obtain ⟨r, h1, h2⟩ := hc
   refine PE.imp (pe_callTy h1 hg hm hv ha hn hdb he hpl) fun σ H Q ⟨ρ, d, en, q, k⟩ => ?_
   cases h3 : fr ρ with
   | none => simp [calD, h3] at q
   | some ds => exact ⟨ρ, ds, en, h3, fun vs H1 s1 r1 => h2 ds d vs H1 Q (by simpa [calD, h3] using q) r1 fun v H' s r => k v H' (s1.trans s) r⟩
end

noncomputable def startR (N : List Str) (ds : List PyData) : Rho := ds.map some ++ List.replicate (N.length - ds.length) none
theorem env_start {K : PySem.W.Frag} {H : Hp} {N : List Str} {ds : List PyData} {vs : List V} (r : Reps K H ds vs) : EnvR K H (startR N ds) (L2.start N vs) := by
  have hl := r.length
  refine ⟨by simp [startR, L2.start, hl], fun i d q => ?_⟩
  unfold startR at q
  by_cases hi : i < ds.length
  · rw [List.getElem?_append_left (by simpa using hi), List.getElem?_map] at q
    cases e : ds[i]? with
    | none => rw [e] at q; cases q
    | some c =>
      rw [e] at q; cases q
      obtain ⟨x, e1, e2⟩ := r.get e
      refine ⟨x, ?_, e2⟩
      unfold L2.start
      rw [List.getElem?_append_left (by simp; omega), List.getElem?_map, e1]; rfl
  · rw [List.getElem?_append_right (by simpa using hi), List.getElem?_replicate] at q
    split at q <;> cases q
noncomputable def bodyD (N : List Str) (n : Nat) (B : Rho → Option Out) (ds : List PyData) : Option PyData := if ds.length = n then match B (startR N ds) with
  | some (.rt d) => some d
  | some (.nx _) => some .none
  | _ => none else none
section
variable {P : Program} {w : World} {K : PySem.W.Frag} {mg : Str → Option Value} {base : Heap}
theorem fn_pure {x qual : Str} {st : Stmt} {f : Addr} {fd : FuncData} {N ps : List Str} {k : Nat} {B : Rho → Option Out} (F : Fun K x qual st f fd) (S : FnScope N ps (defScope st))
    (body : ∀ (cdv : Value) (A : Around) (outer : List Env) (s : Shared) (H : Hp) (E : XK), Room k (A.deeper (envOfC qual (defScope st) s.heap.objs.size f cdv)) →
      PSsD (cxOf CX0 P w K mg base N qual (defScope st) f cdv A outer s H E).nox (defBody st) B) : FnOk P w K mg base CX0 (k + 1) f fd ps (Pur K ps.length (bodyD N ps.length B)) := by
  with_unfolding_all
   refine F.ok S (fun vs H Q E h => ?_) (fun cdv A outer s H vs Q E hr h => ?_)
   · obtain ⟨ds, d, h1, h2, _⟩ := h
     rw [h2.length]; exact h1
   · obtain ⟨ds, d, h1, h2, h3, h4⟩ := h
     refine ⟨_, body cdv A outer s H E hr, ?_⟩
     unfold bodyD at h3
     rw [if_pos h1] at h3
     cases hB : B (startR N ds) with
     | none => rw [hB] at h3; cases h3
     | some o =>
       refine ⟨startR N ds, o, env_start h2, hB, ?_⟩
       rw [hB] at h3
       cases o with
       | rt c => cases h3; exact fun v H' s r => h4 v H' s r
       | nx ρ => cases h3; exact fun σ H' s r => h4 .non H' s rfl
       | bk ρ => cases h3
       | ct ρ => cases h3
theorem fn_as {k n : Nat} {f : Addr} {fd : FuncData} {ps : List Str} {g g' : List PyData → Option PyData} (F : FnOk P w K mg base CX0 k f fd ps (Pur K n g)) (h : ∀ ds d, ds.length = n → g' ds = some d → g ds = some d) : FnOk P w K mg base CX0 k f fd ps (Pur K n g') :=
  F.imp fun vs H Q E ⟨ds, d, h1, h2, h3, h4⟩ => ⟨ds, d, h1, h2, h ds d h1 h3, h4⟩
end
end BX

end
section
set_option Elab.async false
set_option linter.all false
set_option maxRecDepth 100000
set_option maxHeartbeats 4000000
namespace BX
open PySem PySem.Spec L2
open PyProof.Rows hiding St

section
variable {X : Cx}

noncomputable def rCat0 (K : PySem.W.Frag) : R2 := fun x y H Q => ∃ a b ys, x = .ref a ∧ y = .ref b ∧ SqT K H a [] ∧ SqT K H b ys ∧ Q (.ref b) H
theorem op_cat0 : OpR X (binaryOp .Add) (rCat0 X.K) := by
  intro pins s σ H x y v u Q I rx ry h
  obtain ⟨a, b, ys, rfl, rfl, ha, hb, q⟩ := h
  cases rx
  cases ry
  obtain ⟨its, r1, p1, _⟩ := I.tuple ha
  obtain ⟨its2, r2, p2, _⟩ := I.tuple hb
  cases r1
  obtain ⟨⟨c1, d1, t1, l1⟩, ho, hc, n, hd⟩ := id p1
  obtain ⟨⟨c2, d2, t2, l2⟩, ho2, hc2, n2, hd2⟩ := id p2
  simp only at hc hd hc2 hd2
  subst hc hd hc2 hd2
  exact concat_meets ⟨_, ho, rfl⟩ ⟨_, ho2, rfl⟩ noFill_tuple_add seq_tuple_add PySem.F.slot_tuple_add PySem.F.entry_tuple_add (PySem.F.args_tuple_add_2 _ _)
    (tuple_addW0 a b _ _ n n2 d1 d2 l1 l2 (by simp)) ⟨ho, ho2, ⟨.ref b, H, I, rfl, q⟩⟩
noncomputable def dAdd : PyData → PyData → Option PyData
  | .int i, .int j => some (.int (i + j))
  | .list xs, .list ys => if few (xs ++ ys) = true then some (.list (xs ++ ys)) else none
  | .tuple [], .tuple ys => some (.tuple ys)
  | .tuple (x :: xs), .tuple ys => if few ((x :: xs) ++ ys) = true then some (.tuple ((x :: xs) ++ ys)) else none
  | _, _ => none
theorem opd_add : OpD X (binaryOp .Add) dAdd := by
  refine ⟨_, op_add.or (op_cat.or (op_cat0.or op_catT)), fun p q d x y H Q h rx ry k => ?_⟩
  unfold dAdd at h
  split at h
  · cases h
    cases (show x = _ from rx)
    cases (show y = _ from ry)
    exact .inl ⟨_, _, rfl, rfl, k _ H (Same.refl H) rfl⟩
  · rename_i xs ys
    split at h
    · rename_i hf
      cases h
      obtain ⟨a, us, e1, e2, e3⟩ := rx
      obtain ⟨b, ws, e4, e5, e6⟩ := ry
      have hl : us.length + ws.length < 1000000 := by
        rw [e3.length, e6.length]
        simp [few] at hf
        try simp only [List.length_cons]
        omega
      exact .inr (.inl ⟨a, b, us, ws, e1, e4, e2, e5, few_le hl, fun p hp => k _ _ (same_upd hp) ⟨p, _, rfl, upd_same, Reps.mono (same_upd hp) _ _ (e3.append e6)⟩⟩)
    · cases h
  · rename_i ys
    cases h
    obtain ⟨a, us, e1, e2, e3⟩ := rx
    cases (show us = [] from e3)
    obtain ⟨b, ws, e4, e5, e6⟩ := ry
    exact .inr (.inr (.inl ⟨a, b, ws, e1, e4, e2, e5, k _ H (Same.refl H) ⟨b, ws, rfl, e5, e6⟩⟩))
  · rename_i z xs ys
    split at h
    · rename_i hf
      cases h
      obtain ⟨a, us, e1, e2, e3⟩ := rx
      obtain ⟨b, ws, e4, e5, e6⟩ := ry
      have hl : us.length + ws.length < 1000000 := by
        rw [e3.length, e6.length]
        simp [few] at hf
        try simp only [List.length_cons]
        omega
      refine .inr (.inr (.inr ⟨a, b, us, ws, e1, e4, e2, e5, fun z => ?_, few_le hl, fun z => ?_, fun _ p hp => ?_⟩))
      · have := e3.length; rw [z] at this; simp at this
      · subst z
        have := e6.length
        have hy : ys = [] := List.length_eq_zero_iff.mp (by simpa using this.symm)
        subst hy
        exact k _ H (Same.refl H) ⟨a, us, rfl, e2, by simpa using e3⟩
      · exact k _ _ (same_upd hp) ⟨p, _, rfl, SqT.of upd_same, Reps.mono (same_upd hp) _ _ (e3.append e6)⟩
    · cases h
  · cases h
noncomputable def dSub : PyData → PyData → Option PyData
  | .int i, .int j => some (.int (i - j))
  | _, _ => none
theorem opd_sub : OpD X (binaryOp .Sub) dSub := by
  refine ⟨_, op_sub, fun p q d x y H Q h rx ry k => ?_⟩
  unfold dSub at h
  split at h
  · cases h; cases (show x = _ from rx); cases (show y = _ from ry); exact ⟨_, _, rfl, rfl, k _ H (Same.refl H) rfl⟩
  · cases h
theorem Reps.rep {K : PySem.W.Frag} {H : Hp} {ds : List PyData} {xs : List V} (h : Reps K H ds xs) : ∀ (n : Nat), Reps K H (List.replicate n ds).flatten (List.replicate n xs).flatten
  | 0 => rfl
  | n + 1 => by rw [List.replicate_succ, List.replicate_succ, List.flatten_cons, List.flatten_cons]; exact h.append (Reps.rep h n)
noncomputable def dMul : PyData → PyData → Option PyData
  | .int i, .int j => if (-(2 ^ 64) < i ∧ i < 2 ^ 64) ∨ (-(2 ^ 64) < j ∧ j < 2 ^ 64) then some (.int (i * j)) else none
  | .list xs, .int k => if k < 1000 ∧ xs.length < 1000 ∧ -1000 < k then some (.list (List.replicate k.toNat xs).flatten) else none
  | _, _ => none
theorem opd_mul : OpD X (binaryOp .Mult) dMul := by
  refine ⟨_, op_mul.or op_rep, fun p q d x y H Q h rx ry k => ?_⟩
  unfold dMul at h
  split at h
  · split at h
    · rename_i hc
      cases h; cases (show x = _ from rx); cases (show y = _ from ry); exact .inl ⟨_, _, rfl, rfl, hc, k _ H (Same.refl H) rfl⟩
    · cases h
  · rename_i xs n
    split at h
    · rename_i hc
      cases h
      obtain ⟨a, us, e1, e2, e3⟩ := rx
      cases (show y = _ from ry)
      have hl := e3.length
      have hs : us.length * n.toNat ≤ sizeLine := by
        rw [sizeLine_eq]
        have h1 : us.length ≤ 1000 := by omega
        have h2 : n.toNat ≤ 1000 := by omega
        exact Nat.le_trans (Nat.mul_le_mul h1 h2) (by decide)
      exact .inr ⟨a, n, us, e1, rfl, e2, by omega, by omega, hs, fun p hp => k _ _ (same_upd hp) ⟨p, _, rfl, upd_same, Reps.mono (same_upd hp) _ _ (Reps.rep e3 n.toNat)⟩⟩
    · cases h
  · cases h
noncomputable def dFdiv : PyData → PyData → Option PyData
  | .int i, .int j => if 0 < j ∧ j < 1073741824 then some (.int (i / j)) else none
  | _, _ => none
theorem opd_fdiv : OpD X (binaryOp .FloorDiv) dFdiv := by
  refine ⟨_, op_fdiv, fun p q d x y H Q h rx ry k => ?_⟩
  unfold dFdiv at h
  split at h
  · split at h
    · rename_i hc
      cases h; cases (show x = _ from rx); cases (show y = _ from ry); exact ⟨_, _, rfl, rfl, hc, k _ H (Same.refl H) rfl⟩
    · cases h
  · cases h
noncomputable def dMod : PyData → PyData → Option PyData
  | .int i, .int j => if 0 < j then some (.int (i % j)) else none
  | _, _ => none
theorem opd_mod : OpD X (binaryOp .Mod) dMod := by
  refine ⟨_, op_mod, fun p q d x y H Q h rx ry k => ?_⟩
  unfold dMod at h
  split at h
  · split at h
    · rename_i hc
      cases h; cases (show x = _ from rx); cases (show y = _ from ry); exact ⟨_, _, rfl, rfl, hc, k _ H (Same.refl H) rfl⟩
    · cases h
  · cases h

noncomputable def okD (d : PyData) : Bool := d.canLay0 && decide (d.depth < 30)
noncomputable def rEqD (K : PySem.W.Frag) (neg : Bool) : R2 := fun x y H Q => ∃ p q, Rep K H p x ∧ Rep K H q y ∧ okD p = true ∧ okD q = true ∧ Q (.bl (if neg then !PyData.eqv p q else PyData.eqv p q)) H
theorem okD_lay {d : PyData} (h : okD d = true) : d.canLay0 = true := by simp [okD] at h; exact h.1
theorem okD_dep {d : PyData} (h : okD d = true) : d.depth < 30 := by simp [okD] at h; exact h.2
theorem op_eqD (hu : X.A.units + 64 < cLine) : OpR X (compareOp .Eq) (rEqD X.K false) := by
  intro pins s σ H x y v u Q I rx ry ⟨p, q, h1, h2, h3, h4, k⟩
  obtain ⟨as, ra⟩ := reads_of I p x v h1 rx (okD_lay h3)
  obtain ⟨bs, rb⟩ := reads_of I q y u h2 ry (okD_lay h4)
  have d1 := okD_dep h3
  exact SeqAt.compareEq_reads ra rb (okD_lay h3) (okD_lay h4) (by omega) ⟨.bl _, H, I, rfl, k⟩
theorem op_neD (hu : X.A.units + 64 < cLine) : OpR X (compareOp .NotEq) (rEqD X.K true) := by
  intro pins s σ H x y v u Q I rx ry ⟨p, q, h1, h2, h3, h4, k⟩
  obtain ⟨as, ra⟩ := reads_of I p x v h1 rx (okD_lay h3)
  obtain ⟨bs, rb⟩ := reads_of I q y u h2 ry (okD_lay h4)
  have d1 := okD_dep h3
  exact SeqAt.compareNe_reads ra rb (okD_lay h3) (okD_lay h4) (by omega) ⟨.bl _, H, I, rfl, k⟩
noncomputable def rScr0 (K : PySem.W.Frag) : R2 := fun x y H Q => ∃ a b ns, x = .ref a ∧ y = .ref b ∧ SqL K H a (List.map V.int ns) ∧ H b = some (.lst []) ∧ Q (.bl ns.isEmpty) H
theorem readsAll_ints (h : Heap) : ∀ (ns : List Int) (us : List Value), Vals (List.map V.int ns) us → ∃ as, ReadsAll h us (ns.map PyData.int) as
  | [], us, r => by cases r; exact ⟨_, .nil⟩
  | n :: ns, us, r => by
    cases r with
    | cons r1 r2 =>
      obtain ⟨t, rfl⟩ := r1
      obtain ⟨as, ra⟩ := readsAll_ints h ns _ r2
      exact ⟨_, .cons (.int n t) ra⟩
theorem lay_ints : ∀ ns : List Int, PyData.canLayAll0 (ns.map PyData.int) = true
  | [] => rfl
  | n :: ns => by simp [PyData.canLayAll0, PyData.canLay0, lay_ints ns]
theorem op_scr0 (hu : X.A.units + 64 < cLine) : OpR X (compareOp .Eq) (rScr0 X.K) := by
  intro pins s σ H x y v u Q I rx ry ⟨a, b, ns, e1, e2, h1, h2, k⟩
  subst e1; subst e2
  cases rx; cases ry
  obtain ⟨its, rv, ⟨o, n, g1, g2, g3, g4⟩, _⟩ := I.list h1
  obtain ⟨as, ra⟩ := readsAll_ints s.heap ns its rv
  obtain ⟨bs, rb⟩ := reads_of I (.list []) (.ref b) (.ref b) ⟨b, [], rfl, h2, rfl⟩ rfl rfl
  have ra' : Reads s.heap (.ref a) (.list (ns.map PyData.int)) (a :: as) := .list g1 g2 g4 (by simpa using ra)
  refine SeqAt.compareEq_reads ra' rb (by simpa [PyData.canLay0] using lay_ints ns) rfl ?_ ⟨.bl _, H, I, rfl, ?_⟩
  · have : (PyData.list []).depth = 1 := rfl
    rw [this]; omega
  · have : PyData.eqv (.list (ns.map PyData.int)) (.list []) = ns.isEmpty := by cases ns <;> simp [PyData.eqv, PyData.eqvAll]
    rw [this]; exact k
noncomputable def dEq : PyData → PyData → Option PyData
  | .dict kvs, .list [] => if isScr kvs = true then some (.bool kvs.isEmpty) else none
  | p, q => if okD p = true ∧ okD q = true then some (.bool (PyData.eqv p q)) else none
theorem opd_eq (hu : X.A.units + 64 < cLine) : OpD X (compareOp .Eq) dEq := by
  refine ⟨_, (op_scr0 hu).or (op_eqD hu), fun p q d x y H Q h rx ry k => ?_⟩
  unfold dEq at h
  split at h
  · split at h
    · rename_i hs
      cases h
      obtain ⟨a, ns, e1, e2, e3⟩ := rx.scrOut hs
      obtain ⟨b, ws, e4, e5, e6⟩ := ry
      cases (show ws = [] from e6)
      refine .inl ⟨a, b, ns, e1, e4, e2, e5, ?_⟩
      have : ns.isEmpty = (ns.map fun n => (PyData.int n, PyData.none)).isEmpty := by simp
      subst e3
      rw [this]
      exact k _ H (Same.refl H) rfl
    · cases h
  · split at h
    · rename_i hc
      cases h
      exact .inr ⟨p, q, rx, ry, hc.1, hc.2, k _ H (Same.refl H) rfl⟩
    · cases h
noncomputable def dNe : PyData → PyData → Option PyData := fun p q => if okD p = true ∧ okD q = true then some (.bool (!PyData.eqv p q)) else none
theorem opd_ne (hu : X.A.units + 64 < cLine) : OpD X (compareOp .NotEq) dNe := by
  refine ⟨_, op_neD hu, fun p q d x y H Q h rx ry k => ?_⟩
  unfold dNe at h
  split at h
  · rename_i hc
    cases h
    exact ⟨p, q, rx, ry, hc.1, hc.2, k _ H (Same.refl H) rfl⟩
  · cases h
noncomputable def rInD (K : PySem.W.Frag) (neg : Bool) : R2 := fun x y H Q => ∃ p ds, Rep K H p x ∧ (Rep K H (.list ds) y ∨ Rep K H (.tuple ds) y) ∧ okD p = true ∧ okD (.list ds) = true ∧ Q (.bl (if neg then !(ds.any fun z => PyData.eqv z p) else ds.any fun z => PyData.eqv z p)) H
theorem op_inD (hu : X.A.units + 64 < cLine) : OpR X (compareOp .In) (rInD X.K false) := by
  intro pins s σ H x y v u Q I rx ry ⟨p, ds, h1, h2, h3, h4, k⟩
  obtain ⟨as, ra⟩ := reads_of I p x v h1 rx (okD_lay h3)
  have d1 := okD_dep h3
  have hc : PyData.canLayAll0 ds = true := by simpa [PyData.canLay0] using okD_lay h4
  rcases h2 with h2 | h2
  · obtain ⟨bs, rb⟩ := reads_of I (.list ds) y u h2 ry (okD_lay h4)
    exact SeqAt.in_list_reads rb ra hc (okD_lay h3) (by omega) ⟨.bl _, H, I, rfl, k⟩
  · obtain ⟨bs, rb⟩ := reads_of I (.tuple ds) y u h2 ry (by simpa [PyData.canLay0] using hc)
    exact SeqAt.in_tuple_reads rb ra hc (okD_lay h3) (by omega) ⟨.bl _, H, I, rfl, k⟩
theorem op_notInD (hu : X.A.units + 64 < cLine) : OpR X (compareOp .NotIn) (rInD X.K true) := by
  intro pins s σ H x y v u Q I rx ry ⟨p, ds, h1, h2, h3, h4, k⟩
  obtain ⟨as, ra⟩ := reads_of I p x v h1 rx (okD_lay h3)
  have d1 := okD_dep h3
  have hc : PyData.canLayAll0 ds = true := by simpa [PyData.canLay0] using okD_lay h4
  rcases h2 with h2 | h2
  · obtain ⟨bs, rb⟩ := reads_of I (.list ds) y u h2 ry (okD_lay h4)
    exact SeqAt.notIn_list_reads rb ra hc (okD_lay h3) (by omega) ⟨.bl _, H, I, rfl, k⟩
  · obtain ⟨bs, rb⟩ := reads_of I (.tuple ds) y u h2 ry (by simpa [PyData.canLay0] using hc)
    exact SeqAt.notIn_tuple_reads rb ra hc (okD_lay h3) (by omega) ⟨.bl _, H, I, rfl, k⟩
noncomputable def dIn (neg : Bool) : PyData → PyData → Option PyData := fun p q => match q with
  | .list ds => if okD p = true ∧ okD (.list ds) = true then some (.bool (if neg then !(ds.any fun z => PyData.eqv z p) else ds.any fun z => PyData.eqv z p)) else none
  | .tuple ds => if okD p = true ∧ okD (.list ds) = true then some (.bool (if neg then !(ds.any fun z => PyData.eqv z p) else ds.any fun z => PyData.eqv z p)) else none
  | _ => none
theorem dIn_r {neg : Bool} {p q d : PyData} {x y : V} {H : Hp} {Q : VK} {K : PySem.W.Frag} (h : dIn neg p q = some d) (rx : Rep K H p x) (ry : Rep K H q y) (k : ∀ v H', Same H H' → Rep K H' d v → Q v H') : rInD K neg x y H Q := by
  unfold dIn at h
  split at h
  · split at h
    · rename_i ds hc
      cases h
      exact ⟨p, ds, rx, .inl ry, hc.1, hc.2, k _ H (Same.refl H) rfl⟩
    · cases h
  · split at h
    · rename_i ds hc
      cases h
      exact ⟨p, ds, rx, .inr ry, hc.1, hc.2, k _ H (Same.refl H) rfl⟩
    · cases h
  · cases h
theorem opd_in (hu : X.A.units + 64 < cLine) : OpD X (compareOp .In) (dIn false) := ⟨_, op_inD hu, fun p q d x y H Q h rx ry k => dIn_r h rx ry k⟩
theorem opd_notIn (hu : X.A.units + 64 < cLine) : OpD X (compareOp .NotIn) (dIn true) := ⟨_, op_notInD hu, fun p q d x y H Q h rx ry k => dIn_r h rx ry k⟩

noncomputable def dCmp (f : Int → Int → Bool) : PyData → PyData → Option PyData
  | .int i, .int j => some (.bool (f i j))
  | _, _ => none
theorem dCmp_r {f : Int → Int → Bool} {p q d : PyData} {x y : V} {H : Hp} {Q : VK} {K : PySem.W.Frag} (h : dCmp f p q = some d) (rx : Rep K H p x) (ry : Rep K H q y) (k : ∀ v H', Same H H' → Rep K H' d v → Q v H') : rI0 (fun i j => .bl (f i j)) x y H Q := by
  unfold dCmp at h
  split at h
  · cases h; cases (show x = _ from rx); cases (show y = _ from ry); exact ⟨_, _, rfl, rfl, k _ H (Same.refl H) rfl⟩
  · cases h
theorem opd_lt : OpD X (compareOp .Lt) (dCmp fun i j => decide (i < j)) := ⟨_, op_lt, fun p q d x y H Q h rx ry k => dCmp_r h rx ry k⟩
theorem opd_le : OpD X (compareOp .LtE) (dCmp fun i j => decide (i ≤ j)) := ⟨_, op_le, fun p q d x y H Q h rx ry k => dCmp_r h rx ry k⟩
noncomputable def chn (g g' : PyData → PyData → Option PyData) (fa fb fc : Rho → Option PyData) : Rho → Option PyData := fun ρ => (fa ρ).bind fun x => (fb ρ).bind fun y => (g x y).bind fun z => (asB z).bind fun t => if t = true then (fc ρ).bind fun w => g' y w else some (.bool false)
variable {a b c e : Expr} {fa fb fc : Rho → Option PyData} {pos : Pos}
theorem chn_r {g g' : PyData → PyData → Option PyData} {K : PySem.W.Frag} {r r' : R2} (hr : ∀ p q d x y H Q, g p q = some d → Rep K H p x → Rep K H q y → (∀ v H', Same H H' → Rep K H' d v → Q v H') → r x y H Q)
    (hr' : ∀ p q d x y H Q, g' p q = some d → Rep K H p x → Rep K H q y → (∀ v H', Same H H' → Rep K H' d v → Q v H') → r' x y H Q) {σ : St} {H : Hp} {Q : VK} (h : tD K (chn g g' fa fb fc) σ H Q) : tChain r r' (tD K fa) (tD K fb) (tD K fc) σ H Q := by
  obtain ⟨ρ, d, en, h, k⟩ := h
  unfold chn at h
  cases ha : fa ρ with
  | none => rw [ha] at h; cases h
  | some p =>
    cases hb : fb ρ with
    | none => rw [ha, hb] at h; cases h
    | some q =>
      rw [ha, hb] at h
      cases hg : g p q with
      | none => simp [hg] at h
      | some z =>
        cases ht : asB z with
        | none => simp [hg, ht] at h
        | some t =>
          have hz := asB_some ht
          subst hz
          refine ⟨ρ, p, en, ha, fun x H1 s1 r1 => ⟨ρ, q, en.mono s1, hb, fun y H2 s2 r2 => ?_⟩⟩
          refine hr p q _ x y H2 _ hg (Rep.mono s2 p x r1) r2 fun v H3 s3 r3 => ⟨t, r3, ?_⟩
          have s13 := s1.trans (s2.trans s3)
          cases t with
          | false =>
            rw [if_neg Bool.false_ne_true]
            have hd : PyData.bool false = d := by simpa [hg, asB] using h
            subst hd
            exact k _ H3 s13 rfl
          | true =>
            rw [if_pos rfl]
            cases hc : fc ρ with
            | none => simp [hg, asB, hc] at h
            | some w =>
              refine ⟨ρ, w, en.mono s13, hc, fun z H4 s4 r4 => ?_⟩
              exact hr' q w d y z H4 Q (by simpa [hg, asB, hc] using h) (Rep.mono (s3.trans s4) q y r2) r4 fun v H5 s5 r5 => k v H5 (s13.trans (s4.trans s5)) r5
theorem pd_chain {op op' : CmpOp} {g g' : PyData → PyData → Option PyData} (ho : OpD X (compareOp op) g) (ho' : OpD X (compareOp op') g') (ha : PD X a fa) (hb : PD X b fb) (hc : PD X c fc)
    (hm : lastMarks [op, op'] [b, c] = false := by with_unfolding_all rfl) : PD X (.Compare a [op, op'] [b, c] pos) (chn g g' fa fb fc) := by
  with_unfolding_all
   obtain ⟨r, h1, h2⟩ := ho
   obtain ⟨r', h3, h4⟩ := ho'
   exact PE.imp (pe_chain h1 h3 ha hb hc hm) fun σ H Q h => chn_r h2 h4 h
theorem ptd_chain {op op' : CmpOp} {g g' : PyData → PyData → Option PyData} (ho : OpD X (compareOp op) g) (ho' : OpD X (compareOp op') g') (ha : PD X a fa) (hb : PD X b fb) (hc : PD X c fc)
    (hm : lastMarks [op, op'] [b, c] = false := by with_unfolding_all rfl) : PTD X (.Compare a [op, op'] [b, c] pos) (tst (chn g g' fa fb fc)) := by
  with_unfolding_all
   obtain ⟨r, h1, h2⟩ := ho
   obtain ⟨r', h3, h4⟩ := ho'
   refine PT.imp (pt_chain h1 h3 ha hb hc hm) fun σ H Q ⟨ρ, t, en, h, k⟩ => ?_
   cases hd : chn g g' fa fb fc ρ with
   | none => simp [tst, hd] at h
   | some d =>
     have ht : d = .bool t := asB_some (by simpa [tst, hd] using h)
     subst ht
     exact chn_r h2 h4 ⟨ρ, _, en, hd, fun v H' s r => ⟨t, r, k H' s⟩⟩

noncomputable def dIx : PyData → PyData → Option PyData
  | .list ds, .int i => if ds.length < 1000000 then atI ds i else none
  | .tuple ds, .int i => if ds.length < 1000000 then atI ds i else none
  | .dict kvs, .int i => if kvs.length < 1000000 ∧ isScr kvs = true then (atI kvs i).map (·.1) else none
  | _, _ => none
theorem atI_rep {K : PySem.W.Frag} {H : Hp} {ds : List PyData} {xs : List V} {i : Int} {d : PyData} (r : Reps K H ds xs) (h : atI ds i = some d) : ∃ x, atI xs i = some x ∧ Rep K H d x := by
  have hl := r.length
  unfold atI at h ⊢
  rw [hl]
  cases e : ixN ds.length i with
  | none => rw [e] at h; cases h
  | some j =>
    rw [e] at h
    obtain ⟨x, e1, e2⟩ := r.get (show ds[j]? = some d from h)
    exact ⟨x, e1, e2⟩
noncomputable def IxD (X : Cx) (g : PyData → PyData → Option PyData) : Prop := ∃ r, IxR X r ∧ ∀ p q d x y H Q, g p q = some d → Rep X.K H p x → Rep X.K H q y → (∀ v H', Same H H' → Rep X.K H' d v → Q v H') → r x y H Q
theorem ixd : IxD X dIx := by
  refine ⟨_, ix_list.or ix_tup, fun p q d x y H Q h rx ry k => ?_⟩
  unfold dIx at h
  split at h
  · split at h
    · obtain ⟨a, us, e1, e2, e3⟩ := rx
      cases (show y = _ from ry)
      obtain ⟨z, g1, g2⟩ := atI_rep e3 h
      exact .inl ⟨a, us, _, z, e1, rfl, SqL.of e2, g1, k z H (Same.refl H) g2⟩
    · cases h
  · split at h
    · obtain ⟨a, us, e1, e2, e3⟩ := rx
      cases (show y = _ from ry)
      obtain ⟨z, g1, g2⟩ := atI_rep e3 h
      exact .inr ⟨a, us, _, z, e1, rfl, e2, g1, k z H (Same.refl H) g2⟩
    · cases h
  · split at h
    · rename_i hs
      obtain ⟨a, ns, e1, e2, e3⟩ := rx.scrOut hs.2
      cases (show y = _ from ry)
      subst e3
      rename_i i
      unfold atI at h
      rw [List.length_map] at h
      cases e : ixN ns.length i with
      | none => rw [e] at h; cases h
      | some j =>
        rw [e] at h
        have h' : ((ns.map fun n => (PyData.int n, PyData.none))[j]?).map (·.1) = some d := h
        rw [List.getElem?_map] at h'
        cases e4 : ns[j]? with
        | none => rw [e4] at h'; cases h'
        | some n =>
          rw [e4] at h'
          cases h'
          refine .inl ⟨a, List.map V.int ns, i, .int n, e1, rfl, e2, ?_, k _ H (Same.refl H) rfl⟩
          unfold atI
          rw [List.length_map, e]
          show (List.map V.int ns)[j]? = _
          rw [List.getElem?_map, e4]; rfl
    · cases h
  · cases h
theorem pd_ix (ha : PD X a fa) (hb : PD X b fb) (hs : PlainIx b := by intro _ _; rfl) : PD X (.Subscript a b pos) (op2 dIx fa fb) := by
  with_unfolding_all
   obtain ⟨r, h1, h2⟩ := ixd (X := X)
   exact PE.imp (pe_ix h1 ha hb hs) fun σ H Q h => seq2 h2 h

noncomputable def dLen (ds : List PyData) : Option PyData := match ds with
  | [.list xs] => some (.int xs.length)
  | [.tuple xs] => some (.int xs.length)
  | [.dict xs] => if isScr xs = true then some (.int xs.length) else none
  | _ => none
theorem cd_len : CallD X (.builtin "len") dLen := by
  refine ⟨_, call_len_seq, fun ds d xs H Q h r k => ?_⟩
  unfold dLen at h
  split at h
  · cases h
    obtain ⟨x, q, e1, e2, e3⟩ := r
    cases (show q = [] from e3)
    obtain ⟨a, us, g1, g2, g3⟩ := e2
    subst g1
    exact ⟨a, us, e1, .inl (SqL.of g2), k _ H (Same.refl H) (by show _ = _; rw [g3.length])⟩
  · cases h
    obtain ⟨x, q, e1, e2, e3⟩ := r
    cases (show q = [] from e3)
    obtain ⟨a, us, g1, g2, g3⟩ := e2
    subst g1
    exact ⟨a, us, e1, .inr g2, k _ H (Same.refl H) (by show _ = _; rw [g3.length])⟩
  · split at h
    · rename_i hs
      cases h
      obtain ⟨x, q, e1, e2, e3⟩ := r
      cases (show q = [] from e3)
      obtain ⟨a, ns, g1, g2, g3⟩ := e2.scrOut hs
      subst g1; subst g3
      exact ⟨a, _, e1, .inl g2, k _ H (Same.refl H) (by show _ = _; simp)⟩
    · cases h
  · cases h
noncomputable def dMax2 (ds : List PyData) : Option PyData := match ds with
  | [.int i, .int j] => some (.int (if j > i then j else i))
  | _ => none
noncomputable def dMin2 (ds : List PyData) : Option PyData := match ds with
  | [.int i, .int j] => some (.int (if j < i then j else i))
  | _ => none
theorem cd_max2 (hc : X.calm = true) : CallD X (.builtin "max") dMax2 := by
  refine ⟨_, call_max2 hc, fun ds d xs H Q h r k => ?_⟩
  unfold dMax2 at h
  split at h
  · cases h
    obtain ⟨x, q, e1, e2, y, q', e3, e4, e5⟩ := r
    cases (show x = _ from e2); cases (show y = _ from e4); cases (show q' = [] from e5); subst e3
    exact ⟨_, _, e1, k _ H (Same.refl H) rfl⟩
  · cases h
theorem cd_min2 (hc : X.calm = true) : CallD X (.builtin "min") dMin2 := by
  refine ⟨_, call_min2 hc, fun ds d xs H Q h r k => ?_⟩
  unfold dMin2 at h
  split at h
  · cases h
    obtain ⟨x, q, e1, e2, y, q', e3, e4, e5⟩ := r
    cases (show x = _ from e2); cases (show y = _ from e4); cases (show q' = [] from e5); subst e3
    exact ⟨_, _, e1, k _ H (Same.refl H) rfl⟩
  · cases h
end
end BX

end
section
set_option Elab.async false
set_option linter.all false
set_option maxRecDepth 100000
set_option maxHeartbeats 4000000
namespace BX
open PySem PySem.Spec L2
open PyProof.Rows hiding St

section
variable {X : Cx} {pins : List (Addr × Obj)} {σ : St} {H : Hp} {s : Shared}
theorem iter_seqL {prog : Program} {w : World} {A : Around} {E : Value → Shared → Prop} {l : Addr} {its : Array Value} {Q : Value → Shared → Prop} (hl : s.heap.IsList l its)
    (h : ∀ (h2 : Heap) (it : Addr), (h2.IsListIter it l 0 ∧ h2.IsList l its) → (∀ b ∈ [it, l], b < h2.objs.size) → l ≠ it → (∀ b o, s.heap.get? b = some o → h2.get? b = some o) → s.heap.get? it = none → Q (.ref it) { s with heap := h2 }) :
    wpAny (model prog w) A (pyIter (.ref l)) Q E s := by
  have hlt : l < s.heap.objs.size := by
    obtain ⟨_, e, _⟩ := hl
    exact Heap.lt_size e
  refine wpAny_pyIter_list hl (h _ _ ⟨⟨_, Heap.get?_push_size _ rfl, rfl, rfl⟩, hl.push _⟩ (fun b hb => ?_) (Nat.ne_of_lt hlt) (fun b o e => Heap.get?_push_of_some _ e) (Heap.get?_none_of_le (Nat.le_refl _)))
  rw [Heap.size_push]
  rcases List.mem_cons.mp hb with e | hb
  · rw [e]; exact Nat.lt_succ_self _
  · have e : b = l := by simpa using hb
    rw [e]; exact Nat.lt_succ_of_lt hlt
theorem kept_it {h h2 h3 : Heap} {it : Addr} (k1 : ∀ b o, h.get? b = some o → h2.get? b = some o) (hn : h.get? it = none) (k2 : ∀ b o, b ∉ [it] → h2.get? b = some o → h3.get? b = some o) : ∀ b o, h.get? b = some o → h3.get? b = some o := fun b o e =>
  k2 b o (fun z => by have e1 : b = it := by simpa using z
                      rw [e1, hn] at e; cases e) (k1 b o e)

theorem vals_bl : ∀ {bs : List Bool} {us : List Value}, Vals (bs.map V.bl) us → us = bs.map Value.bool
  | [], us, r => by cases r; rfl
  | b :: bs, us, r => by
    cases r with
    | cons r1 r2 => cases (show _ = _ from r1); rw [vals_bl r2]; rfl
theorem all_range (bs : List Bool) : (List.range bs.length).all (fun i => bs.getD i false) = bs.all id := by
  have : bs = (List.range bs.length).map (fun i => bs.getD i false) := by
    apply List.ext_getElem?
    intro i
    rw [List.getElem?_map]
    by_cases h : i < bs.length
    · rw [List.getElem?_range h]; simp [List.getD, h]
    · simp [h]
  conv => rhs; rw [this]
  rw [List.all_map]; rfl
noncomputable def rAll (K : PySem.W.Frag) : List V → Hp → VK → Prop := fun xs H Q => ∃ a bs, xs = [.ref a] ∧ SqL K H a (List.map V.bl bs) ∧ Q (.bl (bs.all id)) H
theorem call_allL (hc : X.calm = true) : CallR X (.builtin "all") (rAll X.K) := by
  intro pins s σ H xs us Q I r ⟨a, bs, e, hq, q⟩
  subst e
  obtain ⟨u, rfl, rx⟩ := vals1 r
  cases rx
  obtain ⟨its, rv, pl, hz⟩ := I.list hq
  have ei := vals_bl rv
  have hh := I.ok.hd hc
  refine call_all_walk (iter_seqL pl.isList fun h2 it st hlt hne k1 hn => ?_)
  refine ⟨it, [it, a], [it], its.toArray.size, (fun i v => its.toArray[i]? = some v), _, fun i => bs.getD i false, rfl, Walks.list (A := X.A.in1) hh it a hne its.toArray, st, ?_, fun h3 tk k2 => ?_⟩
  · intro i v s' Q' E' hP hq'
    have : v = .bool (bs.getD i false) := by
      have hP' : its[i]? = some v := by simpa using hP
      rw [ei, List.getElem?_map] at hP'
      cases hb : bs[i]? with
      | none => rw [hb] at hP'; cases hP'
      | some b => rw [hb] at hP'; cases hP'; simp [List.getD, hb]
    subst this
    exact wpAny_truthy_bool hq'
  · have I3 := I.kept (t' := tk) (kept_it k1 hn k2)
    have hl : its.toArray.size = bs.length := by rw [ei]; simp
    refine ⟨.bl (bs.all id), H, I3, ?_, q⟩
    show _ = _
    rw [hl, all_range]
noncomputable def bls : List PyData → Option (List Bool)
  | [] => some []
  | d :: r => (asB d).bind fun b => (bls r).map fun q => b :: q
theorem Reps.bls {K : PySem.W.Frag} {H : Hp} : ∀ {ds : List PyData} {bs : List Bool} {xs : List V}, BX.bls ds = some bs → Reps K H ds xs → xs = bs.map V.bl
  | [], bs, xs, h, r => by simp [BX.bls] at h; subst h; exact r
  | d :: ds, bs, xs, h, ⟨x, q, e1, e2, e3⟩ => by
    subst e1
    cases h1 : asB d with
    | none => simp [BX.bls, h1] at h
    | some b =>
      cases h2 : BX.bls ds with
      | none => simp [BX.bls, h1, h2] at h
      | some r =>
        have : b :: r = bs := by simpa [BX.bls, h1, h2] using h
        subst this
        have hd := asB_some h1
        subst hd
        cases (show x = _ from e2)
        rw [Reps.bls h2 e3]; rfl
noncomputable def dAll (ds : List PyData) : Option PyData := match ds with
  | [.list xs] => (bls xs).map fun bs => .bool (bs.all id)
  | _ => none
theorem cd_all (hc : X.calm = true) : CallD X (.builtin "all") dAll := by
  refine ⟨_, call_allL hc, fun ds d xs H Q h r k => ?_⟩
  unfold dAll at h
  split at h
  · rename_i ys
    cases hb : bls ys with
    | none => simp [hb] at h
    | some bs =>
      have : PyData.bool (bs.all id) = d := by simpa [hb] using h
      subst this
      obtain ⟨x, q, e1, e2, e3⟩ := r
      cases (show q = [] from e3)
      obtain ⟨a, us, g1, g2, g3⟩ := e2
      subst g1
      have := Reps.bls hb g3
      subst this
      exact ⟨a, bs, e1, SqL.of g2, k _ H (Same.refl H) rfl⟩
  · cases h

noncomputable def inOf : PyData → Option Int
  | .int i => some i
  | _ => none
end
end BX

end
section
set_option Elab.async false
set_option linter.all false
set_option maxRecDepth 100000
set_option maxHeartbeats 4000000
namespace BX
open PySem PySem.Spec L2
open PyProof.Rows hiding St

section
variable {prog : Program} {w : World} {A : Around} {E : Value → Shared → Prop} {s : Shared}

theorem nextT_item {it t : Addr} {i : Nat} {ys : Array Value} {x : Value} {Q : Value → Shared → Prop} (hit : s.heap.IsTupleIter it t i) (ht : s.heap.IsTuple t ys) (hx : ys[i]? = some x)
    (hQ : ∀ h', h'.IsTupleIter it t (i + 1) → Heap.SameBut it s.heap h' → Q x { s with heap := h' }) : wpAny (model prog w) A (Builtin.SmallTypes.nextOf (.ref it)) Q E s := by
  obtain ⟨o, ho, hc, hd⟩ := id hit
  obtain ⟨ot, hot, _, nt, hdt⟩ := ht
  unfold Builtin.SmallTypes.nextOf
  refine wpAny_bind (wpAny_callSpecial?_slot (name := Str.ofString "__next__") hit.typeIs F.slot_tuple_iterator_next
    (wpAny_call_entry F.slot_tuple_iterator_next hit.typeIs F.entry_tuple_iterator_next ?_
      (F.args_tuple_iterator_next_1 _)))
  refine wpAny_bind (m := field (.ref it) 0) (wpAny_field ho hd (x := .ref t) rfl ?_)
  have no : ¬ ((Value.ref t == Value.none) = true) := Bool.false_ne_true
  show wpAny _ _ (if (Value.ref t == Value.none) = true then _ else
    _) _ _ s
  rw [if_neg no]
  refine wpAny_bind (m := field (.ref it) 1) (wpAny_field ho hd (x := .int i 0) rfl ?_)
  refine wpAny_bind (m := seqItems? (.ref t)) (wpAny_seqItems hot hdt ?_)
  simp only [Int.toNat_natCast, hx]
  refine wpAny_bind (wpAny_setField ho hd (by simp) (wpAny_pure ⟨x, rfl, wpAny_pure (hQ _ ?_ (Heap.SameBut.update ..))⟩))
  refine ⟨_, Heap.get?_update_self _ ho (Obj.isFreed_of_fields (Obj.data_mapFields hd _)), (Obj.cls_mapFields ..).trans hc, ?_⟩
  rw [Obj.data_mapFields hd]
  simp [rawInt]
theorem nextT_end {it t : Addr} {i : Nat} {ys : Array Value} {Q : Value → Shared → Prop} (hh : A.handled = none) (hit : s.heap.IsTupleIter it t i) (ht : s.heap.IsTuple t ys) (hx : ys[i]? = none)
    (hE : ∀ h' e, Heap.ExtBut it s.heap h' → (∃ o, h'.get? e = some o ∧ o.cls = .type "StopIteration") → E (.ref e) { s with heap := h' }) : wpAny (model prog w) A (Builtin.SmallTypes.nextOf (.ref it)) Q E s := by
  obtain ⟨o, ho, hc, hd⟩ := id hit
  obtain ⟨ot, hot, _, nt, hdt⟩ := ht
  unfold Builtin.SmallTypes.nextOf
  refine wpAny_bind (wpAny_callSpecial?_slot (name := Str.ofString "__next__") hit.typeIs F.slot_tuple_iterator_next
    (wpAny_call_entry F.slot_tuple_iterator_next hit.typeIs F.entry_tuple_iterator_next ?_
      (F.args_tuple_iterator_next_1 _)))
  refine wpAny_bind (m := field (.ref it) 0) (wpAny_field ho hd (x := .ref t) rfl ?_)
  have no : ¬ ((Value.ref t == Value.none) = true) := Bool.false_ne_true
  show wpAny _ _ (if (Value.ref t == Value.none) = true then _ else
    _) _ _ s
  rw [if_neg no]
  refine wpAny_bind (m := field (.ref it) 1) (wpAny_field ho hd (x := .int i 0) rfl ?_)
  refine wpAny_bind (m := seqItems? (.ref t)) (wpAny_seqItems hot hdt ?_)
  simp only [Int.toNat_natCast, hx]
  refine wpAny_bind (wpAny_rule (wpAny_bind (wpAny_setField ho hd (by simp) ?_)))
  refine wpAny_bind (m := newExc (.type "StopIteration") []) ?_
  simp only [newExc, newTuple]
  refine wpAny_bind (wpAny_newObj_type ?_ (by size_fits))
  refine wpAny_bind (m := firstArgMember _ _) (wpAny_of_eq (a := Value.none)
    (by first | rfl | (simp only [firstArgMember]; rfl)) ?_)
  refine wpAny_newObj_type ?_ (by size_fits)
  simp only [raiseNew]
  refine wpAny_bind (wpAny_handled ?_)
  rw [show A.in1.handled = none from hh]
  refine wpAny_bind (wpAny_pure (wpAny_throw ?_))
  exact hE _ _ (((Heap.SameBut.update ..).extBut.push _).push _) ⟨_, Heap.get?_push_size _ rfl, rfl⟩

noncomputable abbrev Trip (h : Heap) (T : Addr) (a b c : Value) : Prop := h.get? T = some { cls := .type "tuple", data := .seq #[a, b, c] }
theorem upd_trip {T : Addr} {a b c x : Value} {k : Nat} {Q : Unit → Shared → Prop} (hT : Trip s.heap T a b c)
    (h : ∀ h', h'.get? T = some { cls := .type "tuple", data := .seq ((#[a, b, c] : Array Value).setIfInBounds k x) } → Heap.SameBut T s.heap h' → Q () { s with heap := h' }) :
    wpAny (model prog w) A (updateSeq T (·.setIfInBounds k x)) Q E s := by
  refine wpAny_updateSeq hT rfl (h _ ?_ (Heap.SameBut.update ..))
  rw [Heap.get?_update_self _ hT rfl]
  simp [Obj.mapSeq]

structure Apart3 (z TI TO i1 i2 i3 t1 t2 t3 : Addr) : Prop where
  nd : [z, TO, i1, i2, i3].Nodup
  ti : TI ∉ [z, TO, i1, i2, i3]
  s1 : t1 ∉ [z, TO, i1, i2, i3]
  s2 : t2 ∉ [z, TO, i1, i2, i3]
  s3 : t3 ∉ [z, TO, i1, i2, i3]

structure Zip3 (h : Heap) (z TI TO i1 i2 i3 t1 t2 t3 : Addr) (xs ys zs : Array Value) (f0 : Value) (k : Nat) : Prop where
  hz : IsZip h z TI TO f0
  hTI : Trip h TI (.ref i1) (.ref i2) (.ref i3)
  hTO : ∃ a b c, Trip h TO a b c
  g1 : h.IsTupleIter i1 t1 k
  g2 : h.IsTupleIter i2 t2 k
  g3 : h.IsTupleIter i3 t3 k
  a1 : h.IsTuple t1 xs
  a2 : h.IsTuple t2 ys
  a3 : h.IsTuple t3 zs
theorem Zip3.keep {h h' : Heap} {z TI TO i1 i2 i3 t1 t2 t3 : Addr} {xs ys zs : Array Value} {f0 : Value} {k : Nat} (S : Zip3 h z TI TO i1 i2 i3 t1 t2 t3 xs ys zs f0 k)
    (kp : ∀ b ∈ [z, TI, TO, i1, i2, i3, t1, t2, t3], ∀ o, h.get? b = some o → h'.get? b = some o) : Zip3 h' z TI TO i1 i2 i3 t1 t2 t3 xs ys zs f0 k := by
  obtain ⟨hz, hTI, ⟨a, b, c, hTO⟩, ⟨o1, e1, r1⟩, ⟨o2, e2, r2⟩, ⟨o3, e3, r3⟩, ⟨p1, f1, q1⟩, ⟨p2, f2, q2⟩, ⟨p3, f3, q3⟩⟩ := S
  exact ⟨kp z (by simp) _ hz, kp TI (by simp) _ hTI, ⟨a, b, c, kp TO (by simp) _ hTO⟩, ⟨o1, kp i1 (by simp) _ e1, r1⟩, ⟨o2, kp i2 (by simp) _ e2, r2⟩, ⟨o3, kp i3 (by simp) _ e3, r3⟩, ⟨p1, kp t1 (by simp) _ f1, q1⟩, ⟨p2, kp t2 (by simp) _ f2, q2⟩, ⟨p3, kp t3 (by simp) _ f3, q3⟩⟩

noncomputable def But (l : List Addr) (h h' : Heap) : Prop := ∀ b o, b ∉ l → h.get? b = some o → h'.get? b = some o
theorem But.of {b : Addr} {l : List Addr} {h h' : Heap} (x : Heap.ExtBut b h h') (hb : b ∈ l) : But l h h' := fun c o hc e => x c o (fun z => hc (by rw [z]; exact hb)) e
theorem But.trans {l : List Addr} {h h1 h2 : Heap} (a : But l h h1) (b : But l h1 h2) : But l h h2 := fun c o hc e => b c o hc (a c o hc e)

theorem zip3_item {z TI TO i1 i2 i3 t1 t2 t3 : Addr} {xs ys zs : Array Value} {k : Nat} {x y v : Value} {Q : Value → Shared → Prop} (D : Apart3 z TI TO i1 i2 i3 t1 t2 t3) (S : Zip3 s.heap z TI TO i1 i2 i3 t1 t2 t3 xs ys zs .none k)
    (hx : xs[k]? = some x) (hy : ys[k]? = some y) (hv : zs[k]? = some v)
    (hQ : ∀ h', Zip3 h' z TI TO i1 i2 i3 t1 t2 t3 xs ys zs (rawInt s.heap.objs.size) (k + 1) → Trip h' s.heap.objs.size x y v → But [z, TO, i1, i2, i3] s.heap h' → Q (.ref s.heap.objs.size) { s with heap := h' }) :
    wpAny (model prog w) A (Builtin.«zip.__next__» ⟨[.ref z], []⟩) (fun fin s' => ∃ v, fin = .done (.ret v) ∧ Q v s') E s := by
  obtain ⟨hz, hTI, ⟨a, b, c, hTO⟩, g1, g2, g3, a1, a2, a3⟩ := S
  obtain ⟨nd, ti, s1, s2, s3⟩ := D
  simp only [List.nodup_cons, List.mem_cons, List.not_mem_nil, or_false, not_or] at nd ti s1 s2 s3
  obtain ⟨⟨n1, n2, n3, n4⟩, ⟨n5, n6, n7⟩, ⟨n8, n9⟩, n10, _⟩ := nd
  obtain ⟨t1z, t1o, t11, t12, t13⟩ := s1
  obtain ⟨t2z, t2o, t21, t22, t23⟩ := s2
  obtain ⟨t3z, t3o, t31, t32, t33⟩ := s3
  obtain ⟨tiz, tio, ti1, ti2, ti3⟩ := ti
  refine wpAny_bind (m := field (.ref z) 2) (wpAny_field hz rfl (x := .bool false) rfl ?_)
  refine wpAny_bind (m := field (.ref z) 3) (wpAny_field hz rfl (x := .ref TI) rfl ?_)
  refine wpAny_bind (wpAny_seqItems hTI rfl ?_)
  refine wpAny_bind (m := Builtin.SmallTypes.ownedTupleIsFree (.ref z)) ?_
  unfold Builtin.SmallTypes.ownedTupleIsFree
  refine wpAny_bind (wpAny_field hz rfl (x := .none) rfl (wpAny_pure ?_))
  simp only [if_true]
  refine wpAny_bind (wpAny_rule ?_)
  refine wpAny_bind (wpAny_field hz rfl (x := .ref TO) rfl ?_)
  refine wpAny_bind (wpAny_setField_rec hz (by simp) fun h1 hz1 b1 => ?_)
  replace hz1 : IsZip h1 z TI TO .ellipsis := hz1
  refine wpAny_bind ?_
  simp only [List.zipIdx_cons, List.zipIdx_nil, List.forIn_cons, List.forIn_nil]
  -- the first
  refine wpAny_bind (wpAny_bind (wpAny_onRaise ?_))
  refine wpAny_bind (m := Builtin.SmallTypes.nextOf (.ref i1)) ?_
  refine nextT_item (g1.extBut b1.extBut (Ne.symm n2)) (a1.extBut b1.extBut t1z) hx fun h2 g1' b2 => wpAny_pure ?_
  have o2 : Trip h2 TO a b c := b2.extBut _ _ n5 (b1.extBut _ _ (Ne.symm n1) hTO)
  refine wpAny_bind (wpAny_seqItems o2 rfl ?_)
  refine wpAny_bind (upd_trip o2 fun h3 o3 b3 => ?_)
  replace o3 : Trip h3 TO x b c := o3
  refine wpAny_bind (wpAny_letGo (wpAny_pure ?_))
  -- the second
  refine wpAny_bind (wpAny_bind (wpAny_onRaise ?_))
  refine wpAny_bind (m := Builtin.SmallTypes.nextOf (.ref i2)) ?_
  refine nextT_item (((g2.extBut b1.extBut (Ne.symm n3)).extBut b2.extBut (Ne.symm n8)).extBut b3.extBut (Ne.symm n6)) (((a2.extBut b1.extBut t2z).extBut b2.extBut t21).extBut b3.extBut t2o) hy fun h4 g2' b4 => wpAny_pure ?_
  have o4 : Trip h4 TO x b c := b4.extBut _ _ n6 o3
  refine wpAny_bind (wpAny_seqItems o4 rfl ?_)
  refine wpAny_bind (upd_trip o4 fun h5 o5 b5 => ?_)
  replace o5 : Trip h5 TO x y c := o5
  refine wpAny_bind (wpAny_letGo (wpAny_pure ?_))
  -- the third
  refine wpAny_bind (wpAny_bind (wpAny_onRaise ?_))
  refine wpAny_bind (m := Builtin.SmallTypes.nextOf (.ref i3)) ?_
  refine nextT_item (((((g3.extBut b1.extBut (Ne.symm n4)).extBut b2.extBut (Ne.symm n9)).extBut b3.extBut (Ne.symm n7)).extBut b4.extBut (Ne.symm n10)).extBut b5.extBut (Ne.symm n7))
    (((((a3.extBut b1.extBut t3z).extBut b2.extBut t31).extBut b3.extBut t3o).extBut b4.extBut t32).extBut b5.extBut t3o) hv fun h6 g3' b6 => wpAny_pure ?_
  have o6 : Trip h6 TO x y c := b6.extBut _ _ n7 o5
  refine wpAny_bind (wpAny_seqItems o6 rfl ?_)
  refine wpAny_bind (upd_trip o6 fun h7 o7 b7 => ?_)
  replace o7 : Trip h7 TO x y v := o7
  refine wpAny_bind (wpAny_letGo (wpAny_pure (wpAny_pure ?_)))
  -- the tuple is handed out
  refine wpAny_bind (wpAny_seqItems o7 rfl ?_)
  refine wpAny_bind (wpAny_newTuple ?_)
  have sz : h7.objs.size = s.heap.objs.size := by rw [b7.1, b6.1, b5.1, b4.1, b3.1, b2.1, b1.1]
  have B : But [z, TO, i1, i2, i3] s.heap h7 :=
    ((((((But.of b1.extBut (by simp)).trans (But.of b2.extBut (by simp))).trans (But.of b3.extBut (by simp))).trans (But.of b4.extBut (by simp))).trans (But.of b5.extBut (by simp))).trans (But.of b6.extBut (by simp))).trans (But.of b7.extBut (by simp))
  have z7 : IsZip h7 z TI TO .ellipsis := b7.extBut _ _ n1 (b6.extBut _ _ n4 (b5.extBut _ _ n1 (b4.extBut _ _ n3 (b3.extBut _ _ n1 (b2.extBut _ _ n2 hz1)))))
  have i17 : h7.IsTupleIter i1 t1 (k + 1) := ((((g1'.extBut b3.extBut (Ne.symm n5)).extBut b4.extBut n8).extBut b5.extBut (Ne.symm n5)).extBut b6.extBut n9).extBut b7.extBut (Ne.symm n5)
  have i27 : h7.IsTupleIter i2 t2 (k + 1) := ((g2'.extBut b5.extBut (Ne.symm n6)).extBut b6.extBut n10).extBut b7.extBut (Ne.symm n6)
  have i37 : h7.IsTupleIter i3 t3 (k + 1) := g3'.extBut b7.extBut (Ne.symm n7)
  refine wpAny_bind (m := Builtin.SmallTypes.ownedTupleHandOut (.ref z) (.ref h7.objs.size)) ?_
  unfold Builtin.SmallTypes.ownedTupleHandOut
  have z8 : IsZip (h7.push { cls := .type "tuple", data := .seq #[x, y, v] }) z TI TO .ellipsis := Heap.get?_push_of_some _ z7
  refine wpAny_bind (wpAny_setField_rec z8 (by simp) fun h9 z9 b9 => ?_)
  replace z9 : IsZip h9 z TI TO (rawInt h7.objs.size) := z9
  refine wpAny_setField_rec z9 (by simp) fun h10 z10 b10 => ?_
  replace z10 : IsZip h10 z TI TO (rawInt h7.objs.size) := z10
  have up : ∀ c o, c ≠ z → h7.get? c = some o → h10.get? c = some o := fun c o c1 e => b10.extBut _ _ c1 (b9.extBut _ _ c1 (Heap.get?_push_of_some _ e))
  have zlt : z < h7.objs.size := Heap.lt_size z7
  have T10 : Trip h10 h7.objs.size x y v := b10.extBut _ _ (Nat.ne_of_gt zlt) (b9.extBut _ _ (Nat.ne_of_gt zlt) (Heap.get?_push_size _ rfl))
  rw [sz] at z10 T10
  refine wpAny_pure ⟨_, rfl, ?_⟩
  show Q (.ref h7.objs.size) _
  rw [sz]
  have itk : ∀ {i t : Addr} {m : Nat}, i ≠ z → h7.IsTupleIter i t m → h10.IsTupleIter i t m := fun ne ⟨o, e, r⟩ => ⟨o, up _ o ne e, r⟩
  have tuk : ∀ {t : Addr} {us : Array Value}, t ∉ [z, TO, i1, i2, i3] → s.heap.IsTuple t us → h10.IsTuple t us := fun ne ⟨o, e, r⟩ => ⟨o, up _ o (fun q => ne (by simp [q])) (B _ o ne e), r⟩
  refine hQ h10 ⟨z10, up _ _ tiz (B _ _ (by simp [tiz, tio, ti1, ti2, ti3]) hTI), ⟨x, y, v, up _ _ (Ne.symm n1) o7⟩, itk (Ne.symm n2) i17, itk (Ne.symm n3) i27, itk (Ne.symm n4) i37,
    tuk (by simp [t1z, t1o, t11, t12, t13]) a1, tuk (by simp [t2z, t2o, t21, t22, t23]) a2, tuk (by simp [t3z, t3o, t31, t32, t33]) a3⟩ T10 fun c o hc e => up c o (fun q => hc (by simp [q])) (B c o hc e)

theorem zip3_end {z TI TO i1 i2 i3 t1 t2 t3 : Addr} {xs ys zs : Array Value} {k : Nat} {Q : Fin → Shared → Prop} (hh : A.handled = none) (D : Apart3 z TI TO i1 i2 i3 t1 t2 t3) (S : Zip3 s.heap z TI TO i1 i2 i3 t1 t2 t3 xs ys zs .none k) (hx : xs[k]? = none)
    (hE : ∀ h' e, But [z, TO, i1, i2, i3] s.heap h' → (∃ o, h'.get? e = some o ∧ o.cls = .type "StopIteration") → E (.ref e) { s with heap := h' }) :
    wpAny (model prog w) A (Builtin.«zip.__next__» ⟨[.ref z], []⟩) Q E s := by
  obtain ⟨hz, hTI, ⟨a, b, c, hTO⟩, g1, g2, g3, a1, a2, a3⟩ := S
  obtain ⟨nd, ti, s1, s2, s3⟩ := D
  simp only [List.nodup_cons, List.mem_cons, List.not_mem_nil, or_false, not_or] at nd ti s1 s2 s3
  obtain ⟨⟨n1, n2, n3, n4⟩, ⟨n5, n6, n7⟩, ⟨n8, n9⟩, n10, _⟩ := nd
  refine wpAny_bind (m := field (.ref z) 2) (wpAny_field hz rfl (x := .bool false) rfl ?_)
  refine wpAny_bind (m := field (.ref z) 3) (wpAny_field hz rfl (x := .ref TI) rfl ?_)
  refine wpAny_bind (wpAny_seqItems hTI rfl ?_)
  refine wpAny_bind (m := Builtin.SmallTypes.ownedTupleIsFree (.ref z)) ?_
  unfold Builtin.SmallTypes.ownedTupleIsFree
  refine wpAny_bind (wpAny_field hz rfl (x := .none) rfl (wpAny_pure ?_))
  simp only [if_true]
  refine wpAny_bind (wpAny_rule ?_)
  refine wpAny_bind (wpAny_field hz rfl (x := .ref TO) rfl ?_)
  refine wpAny_bind (wpAny_setField_rec hz (by simp) fun h1 hz1 b1 => ?_)
  replace hz1 : IsZip h1 z TI TO .ellipsis := hz1
  refine wpAny_bind ?_
  simp only [List.zipIdx_cons, List.zipIdx_nil, List.forIn_cons, List.forIn_nil]
  refine wpAny_bind (wpAny_bind (wpAny_onRaise ?_))
  refine wpAny_bind (m := Builtin.SmallTypes.nextOf (.ref i1)) ?_
  refine nextT_end hh (g1.extBut b1.extBut (Ne.symm n2)) (a1.extBut b1.extBut s1.1) hx fun h2 e b2 he => ?_
  obtain ⟨oe, ho, hc⟩ := he
  have z2 : IsZip h2 z TI TO .ellipsis := b2 _ _ n2 hz1
  have ez : e ≠ z := fun q => by subst q; rw [z2] at ho; cases ho; simp at hc
  refine wpAny_setField_rec z2 (by simp) fun h3 _ b3 => ?_
  exact hE h3 e (((But.of b1.extBut (by simp)).trans (But.of b2 (by simp))).trans (But.of b3.extBut (by simp))) ⟨oe, b3.extBut _ _ ez ho, hc⟩
end
end BX

end
section
set_option Elab.async false
set_option linter.all false
set_option maxRecDepth 100000
set_option maxHeartbeats 4000000
namespace BX
open PySem PySem.Spec L2
open PyProof.Rows hiding St

structure ZipC (h : Heap) (z TI TO i1 i2 i3 t1 t2 t3 : Addr) (f0 : Value) (k : Nat) : Prop where
  hz : IsZip h z TI TO f0
  hTI : Trip h TI (.ref i1) (.ref i2) (.ref i3)
  hTO : ∃ a b c, Trip h TO a b c
  g1 : h.IsTupleIter i1 t1 k
  g2 : h.IsTupleIter i2 t2 k
  g3 : h.IsTupleIter i3 t3 k
theorem ZipC.all {h : Heap} {z TI TO i1 i2 i3 t1 t2 t3 : Addr} {f0 : Value} {k : Nat} (S : ZipC h z TI TO i1 i2 i3 t1 t2 t3 f0 k) {xs ys zs : Array Value} (a1 : h.IsTuple t1 xs) (a2 : h.IsTuple t2 ys) (a3 : h.IsTuple t3 zs) :
    Zip3 h z TI TO i1 i2 i3 t1 t2 t3 xs ys zs f0 k := ⟨S.hz, S.hTI, S.hTO, S.g1, S.g2, S.g3, a1, a2, a3⟩
theorem Zip3.c {h : Heap} {z TI TO i1 i2 i3 t1 t2 t3 : Addr} {xs ys zs : Array Value} {f0 : Value} {k : Nat} (S : Zip3 h z TI TO i1 i2 i3 t1 t2 t3 xs ys zs f0 k) : ZipC h z TI TO i1 i2 i3 t1 t2 t3 f0 k := ⟨S.hz, S.hTI, S.hTO, S.g1, S.g2, S.g3⟩
theorem ZipC.keep {h h' : Heap} {z TI TO i1 i2 i3 t1 t2 t3 : Addr} {f0 : Value} {k : Nat} (S : ZipC h z TI TO i1 i2 i3 t1 t2 t3 f0 k) (kp : ∀ b ∈ [z, TI, TO, i1, i2, i3], ∀ o, h.get? b = some o → h'.get? b = some o) :
    ZipC h' z TI TO i1 i2 i3 t1 t2 t3 f0 k := by
  obtain ⟨hz, hTI, ⟨a, b, c, hTO⟩, ⟨o1, e1, r1⟩, ⟨o2, e2, r2⟩, ⟨o3, e3, r3⟩⟩ := S
  exact ⟨kp z (by simp) _ hz, kp TI (by simp) _ hTI, ⟨a, b, c, kp TO (by simp) _ hTO⟩, ⟨o1, kp i1 (by simp) _ e1, r1⟩, ⟨o2, kp i2 (by simp) _ e2, r2⟩, ⟨o3, kp i3 (by simp) _ e3, r3⟩⟩

noncomputable def Itz (K : PySem.W.Frag) (t1 t2 t3 : Addr) : It :=
  ⟨fun i H => ∃ xs ys zs x y v, SqT K H t1 xs ∧ SqT K H t2 ys ∧ SqT K H t3 zs ∧ xs[i]? = some x ∧ ys[i]? = some y ∧ zs[i]? = some v,
   fun i H u H' => ∃ p x y v, u = .ref p ∧ H p = none ∧ H' = upd H p (.tup [x, y, v]) ∧ ∀ xs ys zs, SqT K H t1 xs → SqT K H t2 ys → SqT K H t3 zs → xs[i]? = some x ∧ ys[i]? = some y ∧ zs[i]? = some v,
   fun i H => ∃ xs ys zs, SqT K H t1 xs ∧ SqT K H t2 ys ∧ SqT K H t3 zs ∧ xs.length ≤ i⟩

theorem turn_zip {P : Program} {w : World} {K : PySem.W.Frag} {elts : List Expr} {x1 : Nat} {pos : Pos} {z TI TO i1 i2 i3 t1 t2 t3 : Addr} (nd : [z, TO, i1, i2, i3].Nodup) (ti : TI ∉ [z, TO, i1, i2, i3]) :
    Turn P w K (.Tuple elts x1 pos) (Itz K t1 t2 t3) [z, TI, TO, i1, i2, i3] z (fun i h => ZipC h z TI TO i1 i2 i3 t1 t2 t3 .none i) where
  mem := by simp
  obj := fun i h st b hb => by
    obtain ⟨hz, hTI, ⟨a, b', c, hTO⟩, ⟨o1, e1, _, d1⟩, ⟨o2, e2, _, d2⟩, ⟨o3, e3, _, d3⟩⟩ := st
    simp only [List.mem_cons, List.not_mem_nil, or_false] at hb
    rcases hb with rfl | rfl | rfl | rfl | rfl | rfl
    · exact ⟨_, hz, fun v q => by cases q⟩
    · exact ⟨_, hTI, fun v q => by cases q⟩
    · exact ⟨_, hTO, fun v q => by cases q⟩
    · exact ⟨o1, e1, fun v q => by rw [d1] at q; cases q⟩
    · exact ⟨o2, e2, fun v q => by rw [d2] at q; cases q⟩
    · exact ⟨o3, e3, fun v q => by rw [d3] at q; cases q⟩
  keep := fun i h h' st k => st.keep k
  item := by
    intro X hP hw hK hc i pins s σ H E I hf st hg
    subst hP hw hK
    obtain ⟨xs, ys, zs, x, y, v, q1, q2, q3, ex, ey, ev⟩ := hg
    obtain ⟨us1, r1, p1, z1⟩ := I.tuple q1
    obtain ⟨us2, r2, p2, z2⟩ := I.tuple q2
    obtain ⟨us3, r3, p3, z3⟩ := I.tuple q3
    obtain ⟨u1, m1, l1⟩ := r1.get ex
    obtain ⟨u2, m2, l2⟩ := r2.get ey
    obtain ⟨u3, m3, l3⟩ := r3.get ev
    have trk : ∀ {t : Addr} {ws : List V}, SqT X.K H t ws → t ∉ [z, TO, i1, i2, i3] := fun {t ws} hq hb => by
      have hb' : t ∈ [z, TI, TO, i1, i2, i3] := by
        simp only [List.mem_cons, List.not_mem_nil, or_false] at hb ⊢
        rcases hb with e | e | e | e | e <;> simp [e]
      rcases hq with (e | ⟨o, e⟩) | ⟨o, its, n, hk, hcl, hs, _, _⟩
      · have := (hf t hb').1; rw [e] at this; cases this
      · have := (hf t hb').1; rw [e] at this; cases this
      · -- an object of the module is no iterator of ours
        obtain ⟨f0, f1, f2, f3, f4, f5⟩ := hf t hb'
        have hbase := I.mod.kin t o hk
        rcases f3 with q | q
        · exact I.ok.noex t o hbase q
        · exact absurd (Nat.lt_of_lt_of_le (Heap.lt_size hbase) (Nat.le_trans I.ok.bsz q)) (Nat.lt_irrefl _)
    have D : Apart3 z TI TO i1 i2 i3 t1 t2 t3 := ⟨nd, ti, trk q1, trk q2, trk q3⟩
    have S := st.all (xs := us1.toArray) (ys := us2.toArray) (zs := us3.toArray) p1 p2 p3
    have hT : s.TypeIs (.ref z) "zip" := ⟨_, st.hz, rfl⟩
    unfold pyNext
    refine wpAny_bind (wpAny_attempt (wpAny_callSpecial?_slot (name := Str.ofString "__next__") hT F.slot_zip_next
      (wpAny_call_entry F.slot_zip_next hT F.entry_zip_next (zip3_item D S (by simpa using m1) (by simpa using m2) (by simpa using m3) fun h1 S1 T1 B1 => wpAny_pure ?_)
        (F.args_zip_next_1 _))))
    refine ⟨_, rfl, ?_⟩
    refine wpAny_letOwnedTupleGo_zip (s := { s with heap := h1 }) S1.hz fun h2 z2' b2 => ?_
    have nT : H s.heap.objs.size = none := I.hok.fresh (Nat.le_refl _)
    have zlt : z < s.heap.objs.size := Heap.lt_size st.hz
    have T2 : Trip h2 s.heap.objs.size u1 u2 u3 := b2.extBut _ _ (Nat.ne_of_gt zlt) T1
    have B2 : But [z, TO, i1, i2, i3] s.heap h2 := B1.trans (But.of b2.extBut (by simp))
    have inF : ∀ b ∈ [z, TO, i1, i2, i3], b ∈ [z, TI, TO, i1, i2, i3] := fun b hb => by
      simp only [List.mem_cons, List.not_mem_nil, or_false] at hb ⊢
      rcases hb with e | e | e | e | e <;> simp [e]
    have ntr : ∀ b u, H b = some u → b ∉ [z, TO, i1, i2, i3] := fun b u e hb => by
      have := (hf b (inF b hb)).1
      rw [e] at this; cases this
    have neT : ∀ b u, H b = some u → b ≠ s.heap.objs.size := fun b u e q => by rw [q, nT] at e; cases e
    have hok2 : HOk X.prog X.w (upd H s.heap.objs.size (.tup [x, y, v])) h2 := fun b u e => by
      by_cases hb : b = s.heap.objs.size
      · subst hb
        rw [upd_same] at e
        cases e
        exact ⟨by show 3 ≤ sizeLine; rw [sizeLine_eq]; decide, [u1, u2, u3], .cons l1 (.cons l2 (.cons l3 .nil)), ⟨_, T2, rfl, _, rfl⟩⟩
      · rw [upd_ne hb] at e
        refine (I.hok b u e).stay (fun c o hc' q => B2 c o ?_ q) (fun c q => by rw [upd_ne (neT c _ q)]; exact q) fun c ws q => by rw [upd_ne (neT c _ q)]; exact q
        rcases hc' with q' | q'
        · rw [q']; exact ntr b u e
        · exact ntr c _ q'
    have I2 : Inv X pins σ (upd H s.heap.objs.size (.tup [x, y, v])) { s with heap := h2, toks := s.toks } := by
      refine I.step (g' := s.gens) (d' := s.drawn) (ch := [z, TO, i1, i2, i3]) (fun b hb => ?_) (fun b o _ _ hb e _ => B2 b o hb e) (fun b o _ _ hb e _ => ⟨o.slots, B2 b o hb e⟩) (fun b o hb e n => ?_) (fun b o hb e => ⟨o, B2 b o hb e⟩)
        (fun b ws e => by rw [upd_ne (neT b _ e)]; exact e) (fun b ob ws e => by rw [upd_ne (neT b _ e)]; exact e) (fun b ps e => ⟨#[], by rw [upd_ne (neT b _ e), e]; simp⟩) (fun m hm => ?_) hok2 I.bare
      · obtain ⟨f0, f1, f2, f3, f4, f5⟩ := hf b (inF b hb)
        exact ⟨f3, f1, f4, f5⟩
      · rw [upd_ne (Nat.ne_of_lt (Heap.lt_size e))]; exact n
      · obtain ⟨o, es, ep, ho, r⟩ := hm
        refine ⟨o, es, ep, B2 _ o (fun hb => ?_) ho, r⟩
        exact (hf _ (inF _ hb)).2.1 rfl
    refine ⟨.ref s.heap.objs.size, _, I2, rfl, ⟨_, x, y, v, rfl, nT, rfl, fun as bs cs g1 g2 g3 => ?_⟩, ?_, fun b hb => ?_⟩
    · rw [I.tuple_inj g1 q1, I.tuple_inj g2 q2, I.tuple_inj g3 q3]
      exact ⟨ex, ey, ev⟩
    · have c1 := S1.c
      obtain ⟨_, hTI, ⟨a, b, c, hTO⟩, ⟨o1, e1, w1⟩, ⟨o2, e2, w2⟩, ⟨o3, e3, w3⟩⟩ := c1
      simp only [List.nodup_cons, List.mem_cons, List.not_mem_nil, or_false, not_or] at nd ti
      obtain ⟨⟨n1, n2, n3, n4⟩, _⟩ := nd
      exact ⟨z2', b2.extBut _ _ ti.1 hTI, ⟨a, b, c, b2.extBut _ _ (Ne.symm n1) hTO⟩, ⟨o1, b2.extBut _ _ (Ne.symm n2) e1, w1⟩, ⟨o2, b2.extBut _ _ (Ne.symm n3) e2, w2⟩, ⟨o3, b2.extBut _ _ (Ne.symm n4) e3, w3⟩⟩
    · obtain ⟨o, ho, _⟩ : ∃ o, s.heap.get? b = some o ∧ True := by
        obtain ⟨hz, hTI, ⟨a, b', c, hTO⟩, ⟨o1, e1, _⟩, ⟨o2, e2, _⟩, ⟨o3, e3, _⟩⟩ := st
        simp only [List.mem_cons, List.not_mem_nil, or_false] at hb
        rcases hb with rfl | rfl | rfl | rfl | rfl | rfl
        · exact ⟨_, hz, trivial⟩
        · exact ⟨_, hTI, trivial⟩
        · exact ⟨_, hTO, trivial⟩
        · exact ⟨_, e1, trivial⟩
        · exact ⟨_, e2, trivial⟩
        · exact ⟨_, e3, trivial⟩
      rw [upd_ne (Nat.ne_of_lt (Heap.lt_size ho))]
      exact (hf b hb).1
  done := by
    intro X hP hw hK hc i pins s σ H E I hf st hg
    subst hP hw hK
    obtain ⟨xs, ys, zs, q1, q2, q3, hl⟩ := hg
    obtain ⟨us1, r1, p1, z1⟩ := I.tuple q1
    obtain ⟨us2, r2, p2, z2⟩ := I.tuple q2
    obtain ⟨us3, r3, p3, z3⟩ := I.tuple q3
    have trk : ∀ {t : Addr} {ws : List V}, SqT X.K H t ws → t ∉ [z, TO, i1, i2, i3] := fun {t ws} hq hb => by
      have hb' : t ∈ [z, TI, TO, i1, i2, i3] := by
        simp only [List.mem_cons, List.not_mem_nil, or_false] at hb ⊢
        rcases hb with e | e | e | e | e <;> simp [e]
      rcases hq with (e | ⟨o, e⟩) | ⟨o, its, n, hk, hcl, hs, _, _⟩
      · have := (hf t hb').1; rw [e] at this; cases this
      · have := (hf t hb').1; rw [e] at this; cases this
      · obtain ⟨f0, f1, f2, f3, f4, f5⟩ := hf t hb'
        have hbase := I.mod.kin t o hk
        rcases f3 with q | q
        · exact I.ok.noex t o hbase q
        · exact absurd (Nat.lt_of_lt_of_le (Heap.lt_size hbase) (Nat.le_trans I.ok.bsz q)) (Nat.lt_irrefl _)
    have D : Apart3 z TI TO i1 i2 i3 t1 t2 t3 := ⟨nd, ti, trk q1, trk q2, trk q3⟩
    have S := st.all (xs := us1.toArray) (ys := us2.toArray) (zs := us3.toArray) p1 p2 p3
    have hT : s.TypeIs (.ref z) "zip" := ⟨_, st.hz, rfl⟩
    have hlen := r1.length
    unfold pyNext
    refine wpAny_bind (wpAny_attempt (wpAny_callSpecial?_slot (name := Str.ofString "__next__") hT F.slot_zip_next
      (wpAny_call_entry F.slot_zip_next hT F.entry_zip_next (zip3_end (I.ok.hd hc) D S (by simp; omega) fun h1 e B1 he => ?_)
        (F.args_zip_next_1 _))))
    obtain ⟨o, ho, hcl⟩ := he
    refine wpAny_bind (wpAny_isInstance (T := "StopIteration") (b := true) ⟨o, ho, hcl⟩ isSubtype_stop ?_)
    refine wpAny_pure ⟨rfl, ?_⟩
    have inF : ∀ b ∈ [z, TO, i1, i2, i3], b ∈ [z, TI, TO, i1, i2, i3] := fun b hb => by
      simp only [List.mem_cons, List.not_mem_nil, or_false] at hb ⊢
      rcases hb with e | e | e | e | e <;> simp [e]
    have ntr : ∀ b u, H b = some u → b ∉ [z, TO, i1, i2, i3] := fun b u e hb => by
      have := (hf b (inF b hb)).1
      rw [e] at this; cases this
    refine I.step (t' := s.toks) (g' := s.gens) (d' := s.drawn) (ch := [z, TO, i1, i2, i3]) (fun b hb => ?_) (fun b o _ _ hb e _ => B1 b o hb e) (fun b o _ _ hb e _ => ⟨o.slots, B1 b o hb e⟩) (fun b o hb e n => n) (fun b o hb e => ⟨o, B1 b o hb e⟩)
      (fun b ws e => e) (fun b ob ws e => e) (fun b ps e => ⟨#[], by rw [e]; simp⟩) (fun m hm => ?_) (fun b u e => ?_) I.bare
    · obtain ⟨f0, f1, f2, f3, f4, f5⟩ := hf b (inF b hb)
      exact ⟨f3, f1, f4, f5⟩
    · obtain ⟨o, es, ep, ho, r⟩ := hm
      refine ⟨o, es, ep, B1 _ o (fun hb => ?_) ho, r⟩
      exact (hf _ (inF _ hb)).2.1 rfl
    · refine (I.hok b u e).stay (fun c o hc' q => B1 c o ?_ q) (fun c q => q) fun c ws q => q
      rcases hc' with q' | q'
      · rw [q']; exact ntr b u e
      · exact ntr c _ q'
  self := fun _ _ _ _ _ st h => wpAny_pyIter_zip st.hz h
end BX

end
section
set_option Elab.async false
set_option linter.all false
set_option maxRecDepth 100000
set_option maxHeartbeats 4000000
namespace BX
open PySem PySem.Spec L2
open PyProof.Rows hiding St

theorem typeCall_zip3 (a b c : Value) : checkTypeCall "zip" ⟨[a, b, c], []⟩ = pure () := by kernel_rfl
theorem newCall_zip3 (a b c : Value) : checkBuiltinCall "zip.__new__" ⟨[.type "zip", a, b, c], []⟩ = pure () := by kernel_rfl
theorem args_init4 (a b c d : Value) : argsOk "object.__init__" ⟨[a, b, c, d], []⟩ := by
  unfold argsOk
  rw [signature?_of (id := "object.__init__") (n := ['_', '_', 't', 'i', 'n', 'i', '_', '_'])
    (o := ['t', 'c', 'e', 'j', 'b', 'o']) (by kernel_rfl) F.owner_object]
  kernel_rfl
noncomputable abbrev itT3 (t : Addr) : Obj := { cls := .type "tuple_iterator", data := .fields #[.ref t, .int 0 0] }
noncomputable abbrev zh1 (h : Heap) (a : Addr) : Heap := h.push (itT3 a)
noncomputable abbrev zh2 (h : Heap) (a b : Addr) : Heap := (zh1 h a).push (itT3 b)
noncomputable abbrev zh3 (h : Heap) (a b c : Addr) : Heap := (zh2 h a b).push (itT3 c)
noncomputable abbrev zh4 (h : Heap) (a b c : Addr) : Heap := (zh3 h a b c).push { cls := .type "tuple", data := .seq #[.ref h.objs.size, .ref (zh1 h a).objs.size, .ref (zh2 h a b).objs.size] }
noncomputable abbrev zh5 (h : Heap) (a b c : Addr) : Heap := (zh4 h a b c).push { cls := .type "tuple", data := .seq #[.none, .none, .none] }
noncomputable abbrev zh6 (h : Heap) (a b c : Addr) : Heap := (zh5 h a b c).push { cls := .type "zip", data := .fields #[.none, .bool false, .bool false, .ref (zh3 h a b c).objs.size, .ref (zh4 h a b c).objs.size] }
theorem zip_new3 (a b c : Addr) (xs ys zs : Array Value) :
    Meets (Builtin.«zip.__new__» ⟨[.type "zip", .ref a, .ref b, .ref c], []⟩) (fun _ R s => s.heap.IsTuple a xs ∧ s.heap.IsTuple b ys ∧ s.heap.IsTuple c zs ∧
      R (.ok (.ret (.ref (zh5 s.heap a b c).objs.size))) { s with heap := zh6 s.heap a b c }) :=
  .of_wp fun prog w A R s h => by
    obtain ⟨hp, g, d, tk, os⟩ := s
    obtain ⟨h1, h2, h3, h⟩ := h
    have hsub := sub_zip
    have k1 : Heap.IsTuple (Shared.heap ⟨hp, g, d, tk, os⟩) a xs := h1
    have k2 : Heap.IsTuple (Shared.heap ⟨zh1 hp a, g, d, tk, os⟩) b ys := Heap.IsTuple.push h2 _
    have k3 : Heap.IsTuple (Shared.heap ⟨zh2 hp a b, g, d, tk, os⟩) c zs := Heap.IsTuple.push (Heap.IsTuple.push h3 _) _
    wp_walk using wpAny_pyIter_tuple k1, wpAny_pyIter_tuple k2, wpAny_pyIter_tuple k3
    exact ⟨_, rfl, h⟩

section
variable {X : Cx}
noncomputable def iZip3 (K : PySem.W.Frag) (ta : TA) : TI := fun σ H R => ta σ H fun vs H1 => ∃ a b c xs ys zs, vs = [.ref a, .ref b, .ref c] ∧ SqT K H1 a xs ∧ SqT K H1 b ys ∧ SqT K H1 c zs ∧ R (Itz K a b c) H1
theorem pi_zip3 {ea eb ec : Expr} {elts : List Expr} {x1 : Nat} {tp : Pos} {ta : TA} {p pos : Pos} (hg : Gl X "zip") (hm : X.mg "zip" = none) (ha : PA X [ea, eb, ec] ta)
    (hs : starEach [ea, eb, ec] X.env = [(false, eval ea X.env), (false, eval eb X.env), (false, eval ec X.env)] := by rfl) (hs2 : starEach [eb, ec] X.env = [(false, eval eb X.env), (false, eval ec X.env)] := by rfl) :
    PI X (.Tuple elts x1 tp) (.Call (.Name "zip" p) [ea, eb, ec] [] pos) (iZip3 X.K ta) := by
  intro pins s σ H R I h
  refine Call_ (ld_blt I hg hm boot_zip (PyProof.Rows.callWith_type1 (thn (ha pos pins s σ H _ I h) fun us s1 ⟨vs, H1, I1, r1, q1⟩ => ?_) (by rw [hs, hs2]) (by rw [hs2]; rfl)))
  obtain ⟨a, b, c, xs, ys, zs, e, q1, q2, q3, q⟩ := q1
  subst e
  cases r1 with
  | cons r1 rr =>
    cases rr with
    | cons r2 rr =>
      cases rr with
      | cons r3 rr =>
        cases rr
        cases r1; cases r2; cases r3
        obtain ⟨us1, v1, p1, z1⟩ := I1.tuple q1
        obtain ⟨us2, v2, p2, z2⟩ := I1.tuple q2
        obtain ⟨us3, v3, p3, z3⟩ := I1.tuple q3
        refine callType_new F.called_zip (by decide) (typeCall_zip3 _ _ _) (newCall_zip3 _ _ _) (fun obj => args_init4 obj _ _ _) F.entry_zip_new
          (zip_new3 a b c us1.toArray us2.toArray us3.toArray) ⟨p1, p2, p3, ?_⟩
        have n1 : (zh1 s1.heap a).objs.size = s1.heap.objs.size + 1 := Heap.size_push ..
        have n2 : (zh2 s1.heap a b).objs.size = s1.heap.objs.size + 2 := by rw [Heap.size_push, n1]
        have n3 : (zh3 s1.heap a b c).objs.size = s1.heap.objs.size + 3 := by rw [Heap.size_push, n2]
        have n4 : (zh4 s1.heap a b c).objs.size = s1.heap.objs.size + 4 := by rw [Heap.size_push, n3]
        have n5 : (zh5 s1.heap a b c).objs.size = s1.heap.objs.size + 5 := by rw [Heap.size_push, n4]
        have g6 : (zh6 s1.heap a b c).get? (zh5 s1.heap a b c).objs.size = some _ := Heap.get?_push_size _ rfl
        have g5 : (zh6 s1.heap a b c).get? (zh4 s1.heap a b c).objs.size = some _ := Heap.get?_push_of_some _ (Heap.get?_push_size _ rfl)
        have g4 : (zh6 s1.heap a b c).get? (zh3 s1.heap a b c).objs.size = some _ := Heap.get?_push_of_some _ (Heap.get?_push_of_some _ (Heap.get?_push_size _ rfl))
        have up3 : ∀ x o, (zh3 s1.heap a b c).get? x = some o → (zh6 s1.heap a b c).get? x = some o := fun x o e => Heap.get?_push_of_some _ (Heap.get?_push_of_some _ (Heap.get?_push_of_some _ e))
        have g3 : (zh6 s1.heap a b c).get? (zh2 s1.heap a b).objs.size = some _ := up3 _ _ (Heap.get?_push_size _ rfl)
        have g2 : (zh6 s1.heap a b c).get? (zh1 s1.heap a).objs.size = some _ := up3 _ _ (Heap.get?_push_of_some _ (Heap.get?_push_size _ rfl))
        have g1 : (zh6 s1.heap a b c).get? s1.heap.objs.size = some _ := up3 _ _ (Heap.get?_push_of_some _ (Heap.get?_push_of_some _ (Heap.get?_push_size _ rfl)))
        have kp : ∀ x o, s1.heap.get? x = some o → (zh6 s1.heap a b c).get? x = some o := fun x o e => up3 _ _ (Heap.get?_push_of_some _ (Heap.get?_push_of_some _ (Heap.get?_push_of_some _ e)))
        show _ ∧ _
        refine ⟨⟨_, g6, rfl⟩, ?_⟩
        refine wpAny_pyIter_zip g6 ?_
        have I2 : Inv X pins σ H1 { s1 with heap := zh6 s1.heap a b c } := I1.kept (t' := s1.toks) kp
        refine ⟨_, [(zh5 s1.heap a b c).objs.size, (zh3 s1.heap a b c).objs.size, (zh4 s1.heap a b c).objs.size, s1.heap.objs.size, (zh1 s1.heap a).objs.size, (zh2 s1.heap a b).objs.size],
          _, _, H1, rfl, I2, turn_zip (z := (zh5 s1.heap a b c).objs.size) (TI := (zh3 s1.heap a b c).objs.size) (TO := (zh4 s1.heap a b c).objs.size) (i1 := s1.heap.objs.size) (i2 := (zh1 s1.heap a).objs.size) (i3 := (zh2 s1.heap a b).objs.size) (t1 := a) (t2 := b) (t3 := c) ?_ ?_,
          ⟨g6, g4, ⟨_, _, _, g5⟩, ⟨_, g1, rfl, rfl⟩, ⟨_, g2, rfl, rfl⟩, ⟨_, g3, rfl, rfl⟩⟩, fun x hx => ?_, q⟩
        · rw [n5, n4, n1, n2]
          simp [List.nodup_cons]
        · rw [n3, n5, n4, n1, n2]
          simp
        · have hle : s1.heap.objs.size ≤ x := by
            rw [n5, n3, n4, n1, n2] at hx
            simp only [List.mem_cons, List.not_mem_nil, or_false] at hx
            rcases hx with e | e | e | e | e | e <;> rw [e] <;> first | exact Nat.le_refl _ | exact Nat.le_add_right _ _
          exact I1.fpOk hle (I1.hok.fresh hle)

noncomputable def zip3L : List PyData → List PyData → List PyData → List PyData
  | x :: xs, y :: ys, z :: zs => .tuple [x, y, z] :: zip3L xs ys zs
  | _, _, _ => []
noncomputable def zip3D (ds : List PyData) : Option (List PyData) := match ds with
  | [.tuple xs, .tuple ys, .tuple zs] => if xs.length = ys.length ∧ ys.length = zs.length then some (zip3L xs ys zs) else none
  | _ => none
theorem zip3L_len : ∀ (xs ys zs : List PyData), xs.length = ys.length → ys.length = zs.length → (zip3L xs ys zs).length = xs.length
  | [], _, _, _, _ => by simp [zip3L]
  | x :: xs, [], _, h, _ => by simp at h
  | x :: xs, y :: ys, [], _, h => by simp at h
  | x :: xs, y :: ys, z :: zs, h, g => by simp [zip3L, zip3L_len xs ys zs (by simpa using h) (by simpa using g)]
theorem zip3L_get : ∀ (xs ys zs : List PyData) (i : Nat) (d : PyData), (zip3L xs ys zs)[i]? = some d → ∃ x y z, xs[i]? = some x ∧ ys[i]? = some y ∧ zs[i]? = some z ∧ d = .tuple [x, y, z]
  | [], _, _, i, d, h => by simp [zip3L] at h
  | x :: xs, [], _, i, d, h => by simp [zip3L] at h
  | x :: xs, y :: ys, [], i, d, h => by simp [zip3L] at h
  | x :: xs, y :: ys, z :: zs, 0, d, h => by simp [zip3L] at h; exact ⟨x, y, z, rfl, rfl, rfl, h.symm⟩
  | x :: xs, y :: ys, z :: zs, i + 1, d, h => by
    obtain ⟨a, b, c, e1, e2, e3, e4⟩ := zip3L_get xs ys zs i d (by simpa [zip3L] using h)
    exact ⟨a, b, c, by simpa using e1, by simpa using e2, by simpa using e3, e4⟩
theorem pid_zip3 {ea eb ec : Expr} {elts : List Expr} {x1 : Nat} {tp : Pos} {p pos : Pos} {fr : Rho → Option (List PyData)} (hm : X.mg "zip" = none) (ha : PAD X [ea, eb, ec] fr) (hg : Gl X "zip" := by rfl)
    (hs : starEach [ea, eb, ec] X.env = [(false, eval ea X.env), (false, eval eb X.env), (false, eval ec X.env)] := by rfl) (hs2 : starEach [eb, ec] X.env = [(false, eval eb X.env), (false, eval ec X.env)] := by rfl) :
    PID X (.Tuple elts x1 tp) (.Call (.Name "zip" p) [ea, eb, ec] [] pos) (fun ρ => (fr ρ).bind zip3D) := by
  with_unfolding_all
   refine PI.imp (pi_zip3 hg hm ha hs hs2) fun σ H R ⟨ρ, ds, en, q, k⟩ => ?_
   cases h1 : fr ρ with
   | none => simp [h1] at q
   | some as =>
     have q' : zip3D as = some ds := by simpa [h1] using q
     refine ⟨ρ, as, en, h1, fun vs H1 s1 r1 => ?_⟩
     unfold zip3D at q'
     split at q'
     · rename_i xs ys zs
       split at q'
       · rename_i hl
         cases q'
         obtain ⟨v1, w1, e1, ⟨a, us1, ea', qa, ra⟩, v2, w2, e2, ⟨b, us2, eb', qb, rb⟩, v3, w3, e3, ⟨c, us3, ec', qc, rc⟩, e4⟩ := r1
         cases (show w3 = [] from e4)
         subst ea'; subst eb'; subst ec'; subst e3; subst e2
         have l1 := ra.length
         have l2 := rb.length
         have l3 := rc.length
         have lz := zip3L_len xs ys zs hl.1 hl.2
         refine ⟨a, b, c, us1, us2, us3, e1, qa, qb, qc, k _ H1 s1 fun i H2 s2 => ⟨fun hi => ?_, fun hi => ?_, fun u H3 y => ?_⟩⟩
         · rw [lz] at hi
           exact ⟨us1, us2, us3, us1[i]'(by omega), us2[i]'(by omega), us3[i]'(by omega), SameE.tup s2 qa, SameE.tup s2 qb, SameE.tup s2 qc, by simp <;> omega, by simp <;> omega, by simp <;> omega⟩
         · rw [lz] at hi
           exact ⟨us1, us2, us3, SameE.tup s2 qa, SameE.tup s2 qb, SameE.tup s2 qc, by omega⟩
         · obtain ⟨pp, x, y, v, e5, e6, e7, e8⟩ := y
           subst e5; subst e7
           refine ⟨same_upd e6, fun d hd => ?_⟩
           obtain ⟨dx, dy, dz, g1, g2, g3, g4⟩ := zip3L_get xs ys zs i d hd
           subst g4
           obtain ⟨f1, f2, f3⟩ := e8 us1 us2 us3 (SameE.tup s2 qa) (SameE.tup s2 qb) (SameE.tup s2 qc)
           have m := s2.trans (Same.e (same_upd (o := .tup [x, y, v]) e6))
           obtain ⟨x', a1, a2⟩ := (Reps.monoE m _ _ ra).get g1
           obtain ⟨y', b1, b2⟩ := (Reps.monoE m _ _ rb).get g2
           obtain ⟨z', c1, c2⟩ := (Reps.monoE m _ _ rc).get g3
           rw [f1] at a1; cases a1
           rw [f2] at b1; cases b1
           rw [f3] at c1; cases c1
           exact ⟨pp, [x, y, v], rfl, SqT.of upd_same, x, _, rfl, a2, y, _, rfl, b2, v, _, rfl, c2, rfl⟩
       · cases q'
     · cases q'

noncomputable def tyn : PyData → String
  | .none => "NoneType"
  | .bool _ => "bool"
  | .int _ => "int"
  | .str _ => "str"
  | .tuple _ => "tuple"
  | .list _ => "list"
  | .dict kvs => if isScr kvs then "list" else "dict"
noncomputable def isFn : PyData → Bool
  | .dict [(.str _, _)] => true
  | _ => false
noncomputable def isiO (T : String) (d : PyData) : Option PyData := if isFn d = true then none else some (.bool (tyn d == T || (T == "int" && tyn d == "bool")))
theorem isi_data {pins : List (Addr × Obj)} {σ : St} {H : Hp} {s : Shared} {E : Value → Shared → Prop} {Q : Value → Shared → Prop} {d : PyData} {v : V} {u c : Value} {b : Bool} (I : Inv X pins σ H s) (r : Rep X.K H d v) (hF : isFn d = false) (rv : RelV v u)
    (e : PySem.W.kitOne X.K (.type (tyn d)) c = some b) (h : ∀ tk, Q (.bool b) { s with toks := tk }) : wpAny (model X.prog X.w) X.A (call (.builtin "isinstance") [u, c]) Q E s := by
  cases d with
  | none => cases r; cases rv; exact PySem.W.kia_one PySem.W.kitx_none I.kIn True.intro e (fun z => nomatch z) h
  | bool y => cases r; cases rv; exact PySem.W.kia_one PySem.W.kitx_bool I.kIn True.intro e (fun z => nomatch z) h
  | int i => cases r; obtain ⟨t, rfl⟩ := rv; exact PySem.W.kia_one PySem.W.kitx_int I.kIn True.intro e (fun z => nomatch z) h
  | str y => cases r; obtain ⟨t, rfl⟩ := rv; exact PySem.W.kia_one PySem.W.kitx_str I.kIn True.intro e (fun z => nomatch z) h
  | tuple ds =>
    obtain ⟨a, xs, e1, e2, e3⟩ := r
    subst e1; cases rv
    obtain ⟨its, _, ⟨o, h1, h2, _⟩, _⟩ := I.tuple e2
    exact PySem.W.kia_one PySem.W.kitx_tuple I.kIn ⟨o, h1, h2⟩ e (fun z => nomatch z) h
  | list ds =>
    obtain ⟨a, xs, e1, e2, e3⟩ := r
    subst e1; cases rv
    obtain ⟨its, _, ⟨o, n, h1, h2, _⟩, _⟩ := I.list (SqL.of e2)
    exact PySem.W.kia_one PySem.W.kitx_list I.kIn ⟨o, h1, h2⟩ e (fun z => nomatch z) h
  | dict ds =>
    obtain ⟨a, e1, ⟨ns, e2, e3⟩ | ⟨ks, ob, e2, e3⟩ | ⟨x, e2, _⟩ | ⟨x, _, _, e2, _⟩⟩ := r
    · subst e1; cases rv
      subst e3
      have e : PySem.W.kitOne X.K (.type "list") c = some b := by simpa [tyn, isScr_map] using e
      obtain ⟨its, _, ⟨o, n, h1, h2, _⟩, _⟩ := I.list e2
      exact PySem.W.kia_one PySem.W.kitx_list I.kIn ⟨o, h1, h2⟩ e (fun z => nomatch z) h
    · subst e1; cases rv
      obtain ⟨cc, rr, rfl, e4⟩ := e3.out
      have e : PySem.W.kitOne X.K (.type "dict") c = some b := by simpa [tyn, isScr] using e
      obtain ⟨_, _, vs, _, dd⟩ := dk_rd I.hok (.inr ⟨ob, e2⟩)
      obtain ⟨o, es, ep, h1, h2, _⟩ := dd
      exact PySem.W.kia_one PySem.W.kitx_dict I.kIn ⟨o, h1, h2.1⟩ e (fun z => nomatch z) h
    · subst e2; simp [isFn] at hF
    · subst e2; simp [isFn] at hF
noncomputable def rIsi (K : PySem.W.Frag) (T : String) : List V → Hp → VK → Prop := fun xs H Q => ∃ x d b, xs = [x, .ty T] ∧ Rep K H d x ∧ isFn d = false ∧ PySem.W.kitOne K (.type (tyn d)) (.type T) = some b ∧ Q (.bl b) H
theorem call_isi {T : String} : CallR X (.builtin "isinstance") (rIsi X.K T) := by
  intro pins s σ H xs us Q I r ⟨x, d, b, e, h1, hF, h2, q⟩
  subst e
  obtain ⟨u, w', rfl, r1, r2⟩ := vals2 r
  cases (show w' = _ from r2)
  exact isi_data I h1 hF r1 h2 fun tk => ⟨.bl b, H, I.tok tk, rfl, q⟩
noncomputable def isiB (T : String) (d : PyData) : Bool := tyn d == T || (T == "int" && tyn d == "bool")
@[simp] theorem isiO_none (T : String) : isiO T .none = some (.bool (isiB T .none)) := rfl
@[simp] theorem isiO_bool (T : String) (b : Bool) : isiO T (.bool b) = some (.bool (isiB T (.bool b))) := rfl
@[simp] theorem isiO_int (T : String) (i : Int) : isiO T (.int i) = some (.bool (isiB T (.int i))) := rfl
@[simp] theorem isiO_str (T : String) (x : Str) : isiO T (.str x) = some (.bool (isiB T (.str x))) := rfl
@[simp] theorem isiO_tuple (T : String) (ds : List PyData) : isiO T (.tuple ds) = some (.bool (isiB T (.tuple ds))) := rfl
@[simp] theorem isiO_list (T : String) (ds : List PyData) : isiO T (.list ds) = some (.bool (isiB T (.list ds))) := rfl
theorem isiO_out {T : String} {d e : PyData} (h : isiO T d = some e) : isFn d = false ∧ e = .bool (isiB T d) := by
  unfold isiO at h
  split at h
  · cases h
  · rename_i hf; cases h; exact ⟨by simpa using hf, rfl⟩
theorem kit_isi {K : PySem.W.Frag} {T : String} (hT : T = "bool" ∨ T = "int" ∨ T = "tuple") (d : PyData) : PySem.W.kitOne K (.type (tyn d)) (.type T) = some (isiB T d) := by
  rcases hT with rfl | rfl | rfl <;> cases d <;> first | rfl | (rename_i kvs; by_cases h : isScr kvs = true <;> simp only [tyn, isiB, h] <;> rfl)
theorem pd_isi {a : Expr} {fa : Rho → Option PyData} {T : Str} {Tn : String} {p p2 pos : Pos} (hT : Tn = "bool" ∨ Tn = "int" ∨ Tn = "tuple") (hm1 : X.mg "isinstance" = none) (hm2 : X.mg T = none) (hv : bootBuiltins T = some (.type Tn)) (ha : PD X a fa)
    (hg1 : Gl X "isinstance" := by rfl) (hg2 : Gl X T := by rfl) (hn : T ≠ "__name__" := by decide) (hd : (T == ("__debug__" : Str)) = false := by decide)
    (he : starEach [a, .Name T p2] X.env = [(false, eval a X.env), (false, eval (.Name T p2) X.env)] := by rfl) (he2 : starEach [.Name T p2] X.env = [(false, eval (.Name T p2) X.env)] := by rfl) (hpl : (backTo pos (starEach [.Name T p2] X.env)).any (·.1) = false := by rfl) :
    PD X (.Call (.Name "isinstance" p) [a, .Name T p2] [] pos) (fun ρ => (fa ρ).bind fun d => isiO Tn d) := by
  with_unfolding_all
   have hT2 : PE X (.Name T p2) (tC (.ty Tn)) := pe_bltn hg2 hm2 hv rfl hn hd
   refine PE.imp (pe_callB (call_isi (T := Tn)) hg1 hm1 (by decide +kernel) (pa_cons ha (pa_cons hT2 pa_nil (by rw [he2]; rfl)) (by rw [he, he2])) (by decide) (by decide) (by rw [he, he2]) hpl) fun σ H Q ⟨ρ, d, en, q, k⟩ => ?_
   cases h1 : fa ρ with
   | none => simp [h1] at q
   | some c =>
     obtain ⟨hF, rfl⟩ := isiO_out (show isiO Tn c = some d by simpa [h1] using q)
     exact ⟨ρ, c, en, h1, fun v H1 s1 r1 => ⟨v, c, _, rfl, r1, hF, kit_isi hT c, k _ H1 s1 rfl⟩⟩
end
end BX

end
section
set_option Elab.async false
set_option linter.all false
set_option maxRecDepth 100000
set_option maxHeartbeats 4000000
namespace BX
open PySem PySem.Spec L2
open PyProof.Rows hiding St

noncomputable def SameN (H H' : Hp) : Prop := ∀ b o, H b = some o → (∀ xs, o ≠ .lst xs) → H' b = some o
theorem Same.n {H H' : Hp} (e : Same H H') : SameN H H' := fun b o h _ => e b o h
theorem SameN.refl (H : Hp) : SameN H H := fun _ _ h _ => h
theorem SameN.trans {H H1 H2 : Hp} (a : SameN H H1) (b : SameN H1 H2) : SameN H H2 := fun c o h n => b c o (a c o h n) n
theorem SameN.upd {H : Hp} {p : Addr} {xs ys : List V} (hp : H p = some (.lst xs)) : SameN H (upd H p (.lst ys)) := fun b o h n => by
  have : b ≠ p := fun e => by subst e; rw [hp] at h; cases h; exact n _ rfl
  rw [upd_ne this]; exact h
mutual
noncomputable def noL : PyData → Bool
  | .none => true
  | .bool _ => true
  | .int _ => true
  | .str _ => true
  | .tuple ds => noLs ds
  | .list _ => false
  | .dict _ => false
noncomputable def noLs : List PyData → Bool
  | [] => true
  | d :: ds => noL d && noLs ds
end
section
variable {K : PySem.W.Frag} {H H' : Hp}
theorem SameN.tup {a : Addr} {xs : List V} (e : SameN H H') (h : SqT K H a xs) : SqT K H' a xs := by
  rcases h with (h | ⟨o, h⟩) | h
  · exact .inl (.inl (e _ _ h fun _ z => nomatch z))
  · exact .inl (.inr ⟨o, e _ _ h fun _ z => nomatch z⟩)
  · exact .inr h
mutual
theorem Rep.monoN (e : SameN H H') : ∀ (d : PyData) (v : V), noL d = true → Rep K H d v → Rep K H' d v
  | .none, v, _, h => h
  | .bool _, v, _, h => h
  | .int _, v, _, h => h
  | .str _, v, _, h => h
  | .tuple ds, v, n, ⟨a, xs, h1, h2, h3⟩ => ⟨a, xs, h1, SameN.tup e h2, Reps.monoN e ds xs (by simpa [noL] using n) h3⟩
  | .list ds, v, n, h => by simp [noL] at n
  | .dict ds, v, n, h => by simp [noL] at n
theorem Reps.monoN (e : SameN H H') : ∀ (ds : List PyData) (xs : List V), noLs ds = true → Reps K H ds xs → Reps K H' ds xs
  | [], xs, _, h => h
  | d :: ds, xs, n, ⟨x, r, h1, h2, h3⟩ => by
    have n' : noL d = true ∧ noLs ds = true := by simpa [noLs] using n
    exact ⟨x, r, h1, Rep.monoN e d x n'.1 h2, Reps.monoN e ds r n'.2 h3⟩
end
theorem noLs_append : ∀ (ds es : List PyData), noLs (ds ++ es) = (noLs ds && noLs es)
  | [], es => by simp [noLs]
  | d :: ds, es => by simp [noLs, noLs_append ds es, Bool.and_assoc]
theorem noLs_all : ∀ {ds : List PyData}, (∀ d ∈ ds, noL d = true) → noLs ds = true
  | [], _ => rfl
  | d :: ds, h => by simp [noLs, h d List.mem_cons_self, noLs_all fun x hx => h x (List.mem_cons_of_mem _ hx)]
end
end BX

end
section
set_option Elab.async false
set_option linter.all false
set_option maxRecDepth 100000
set_option maxHeartbeats 4000000
namespace BX
open PySem PySem.Spec L2
open PyProof.Rows hiding St

noncomputable def Callee (P : Program) (w : World) (K : PySem.W.Frag) (mg : Str → Option Value) (base : Heap) (x : Str) (ps : List Str) (k n : Nat) (g : List PyData → Option PyData) : Prop :=
  ∃ (f : Addr) (fd : FuncData), FnOk P w K mg base CX0 k f fd ps (Pur K n g) ∧ mg x = some (.ref f) ∧ PySem.W.keepIn K (.ref f) = true ∧ Binds K fd ps []
theorem len_nil : ∀ (ρ : Rho) (ds : List PyData), nilA ρ = some ds → ds.length = 0 := fun ρ ds h => by cases h; rfl
theorem len_cons {fa : Rho → Option PyData} {fr : Rho → Option (List PyData)} {n : Nat} (h : ∀ (ρ : Rho) (ds : List PyData), fr ρ = some ds → ds.length = n) : ∀ (ρ : Rho) (ds : List PyData), consA fa fr ρ = some ds → ds.length = n + 1 := fun ρ ds q => by
  cases h1 : fa ρ with
  | none => simp [consA, h1] at q
  | some x =>
    cases h2 : fr ρ with
    | none => simp [consA, h1, h2] at q
    | some r =>
      have : x :: r = ds := by simpa [consA, h1, h2] using q
      subst this
      simp [h ρ r h2]
section
variable {X : Cx} {e : Expr} {es : List Expr} {pos : Pos}
theorem pd_callC {k j n : Nat} {ps : List Str} {g : List PyData → Option PyData} {x : Str} {p : Pos} {fr : Rho → Option (List PyData)} (c : Callee X.prog X.w X.K X.mg X.base x ps k n g) (hr : Room j X.A) (hkj : k ≤ j) (ha : PAD X (e :: es) fr)
    (hl : ∀ (ρ : Rho) (ds : List PyData), fr ρ = some ds → ds.length = n) (hn : (e :: es).length = n := by rfl) (hg : Gl X x := by rfl) (hdb : (x == ("__debug__" : Str)) = false := by decide) (he : starEach (e :: es) X.env = (false, eval e X.env) :: starEach es X.env := by rfl)
    (hpl : (backTo pos (starEach es X.env)).any (·.1) = false := by rfl) : PD X (.Call (.Name x p) (e :: es) [] pos) (calD g fr) := by
  with_unfolding_all
   obtain ⟨f, fd, h1, h2, h3, h4⟩ := c
   exact pd_call h1 (hr.mono hkj) h2 h3 h4 hn ha (fun ρ ds q => by rw [hl ρ ds q, hn]) hg hdb he hpl
end

theorem compL_eq {ft : Rho → Option Bool} {fe : Rho → Option PyData} {i : Nat} (p : PyData → Bool) (h : PyData → PyData) : ∀ (ds : List PyData) (τ : Rho), (∀ d ∈ ds, ft (τ.set i (some d)) = some (p d)) → (∀ d ∈ ds, p d = true → fe (τ.set i (some d)) = some (h d)) →
    compL (asgN i) ft fe ds τ = some ((ds.filter p).map h)
  | [], τ, _, _ => rfl
  | d :: ds, τ, h1, h2 => by
    have ih := compL_eq p h ds (τ.set i (some d)) (fun c hc => by rw [List.set_set]; exact h1 c (List.mem_cons_of_mem _ hc)) (fun c hc hp => by rw [List.set_set]; exact h2 c (List.mem_cons_of_mem _ hc) hp)
    simp only [compL, asgN, Option.bind_some, h1 d List.mem_cons_self]
    by_cases hp : p d = true
    · simp [hp, h2 d List.mem_cons_self hp, ih, List.filter_cons]
    · simp [hp, ih, List.filter_cons]
theorem compL_map {fe : Rho → Option PyData} {i : Nat} (h : PyData → PyData) (ds : List PyData) (τ : Rho) (h2 : ∀ d ∈ ds, fe (τ.set i (some d)) = some (h d)) : compL (asgN i) truT fe ds τ = some (ds.map h) := by
  rw [compL_eq (fun _ => true) h ds τ (fun _ _ => rfl) (fun d hd _ => h2 d hd), List.filter_eq_self.mpr (fun _ _ => rfl)]
noncomputable def compChk (st : Scope) (N : List Str) (sc : Scope) (N' : List Str) (cap : List (Option Nat)) : Bool :=
  sc.names.all (fun x => !decide (x.2 = .free) || decide (st.names.lookup x.1 = some .cell) || decide (st.names.lookup x.1 = some .free)) && sc.names.all (fun x => !decide (x.2 = .cell)) && decide (sc.kind = .function) &&
  sc.names.all (fun x => !decide (x.2 = .local) || decide (sc.names.lookup x.1 = some .local)) && decide (cap.length = N'.length) &&
  (List.range N'.length).all (fun j => match N'[j]?, cap[j]? with
    | some x, some (some i) => decide (N[i]? = some x) && decide (sc.names.lookup x = some .free)
    | _, _ => true)
theorem comp_ok {X : Cx} {sc : Scope} {N' : List Str} {cap : List (Option Nat)} (st : Scope) (N : List Str) (h : compChk st N sc N' cap = true) (hst : X.env.scope = st := by rfl) (hN : X.N = N := by rfl) : CompOk X sc N' cap := by
  simp only [compChk, Bool.and_eq_true, List.all_eq_true, Bool.or_eq_true, Bool.not_eq_true', decide_eq_true_eq, decide_eq_false_iff_not] at h
  obtain ⟨⟨⟨⟨⟨h1, h2⟩, h3⟩, h4⟩, h5⟩, h6⟩ := h
  subst hst; subst hN
  refine ⟨fun x hx e => ?_, h2, h3, fun x hx e => ?_, h5, fun j i x e1 e2 => ?_⟩
  · rcases h1 x hx with (z | z) | z
    · exact absurd e z
    · exact .inl z
    · exact .inr z
  · rcases h4 x hx with z | z
    · exact absurd e z
    · exact z
  · have hj : j < N'.length := (List.getElem?_eq_some_iff.mp e1).1
    have := h6 j (List.mem_range.mpr hj)
    rw [e1, e2] at this
    simpa using this
end BX

end
section
set_option Elab.async false
set_option linter.all false
set_option maxRecDepth 100000
set_option maxHeartbeats 4000000
namespace BX
open PySem PySem.Spec L2
open PyProof.Rows hiding St

section
variable {X : Cx} {pins : List (Addr × Obj)} {σ : St} {H : Hp} {s : Shared}
end

structure Own1 (X : Cx) (pins : List (Addr × Obj)) (b : Addr) : Prop where
  h1 : b ≠ X.env.locals
  h2 : b ∉ X.fs
  h3 : X.s₀.heap.objs.size ≤ b
  h4 : ∀ x c, X.env.cells.lookup x = some c → c ≠ b
  h5 : ∀ p ∈ X.pn ++ pins, p.1 ≠ b

end BX

end
section
set_option Elab.async false
set_option linter.all false
set_option maxRecDepth 100000
set_option maxHeartbeats 4000000
namespace BX
open PySem PySem.Spec L2
open PyProof.Rows hiding St

theorem bt_min : bootBuiltins "min" = some (.builtin "min") := by decide +kernel
theorem bt_max : bootBuiltins "max" = some (.builtin "max") := by decide +kernel
section
variable {X : Cx} {a : Expr} {fa : Rho → Option PyData} {pos p p2 p3 kp kp2 : Pos} {j3 : Nat}
end

section
variable {X : Cx} {a : Expr} {fa : Rho → Option PyData} {pos p p3 kp2 : Pos} {j3 : Nat}
end
end BX

end
section
set_option Elab.async false
set_option linter.all false
set_option maxRecDepth 100000
set_option maxHeartbeats 4000000
namespace BX.Srt
open PySem PySem.W
open PyProof.Rows (mirror bubble mirror_size mirror_perm bubble_size bubble_perm getElem?_mirror_all getElem?_bubble)

section
variable (rk : Nat → Int) (n : Nat)
noncomputable def val (p : Array Nat) (k : Nat) : Int := rk (p.getD k 0)
noncomputable def OKp (p : Array Nat) : Prop := p.Perm (List.range n).toArray
end
section
variable {rk : Nat → Int} {n : Nat} {p p' : Array Nat}
theorem OKp.size (h : OKp n p) : p.size = n := by
  have := h.size_eq
  simpa using this
theorem OKp.lt (h : OKp n p) {k : Nat} (hk : k < n) : p.getD k 0 < n := by
  have hs := h.size
  have e : p.getD k 0 = p[k]'(by omega) := by simp [Array.getD, hs, hk]
  have : p[k]'(by omega) ∈ (List.range n).toArray := h.mem_iff.mp (Array.getElem_mem _)
  rw [e]
  simpa using this
end

variable {rk : Nat → Int} {n : Nat} {cmp : Nat → Nat → (Bool → Shared → Prop) → Shared → Prop}
section
variable {s : Shared} (hc : ∀ i j (C : Bool → Shared → Prop), i < n → j < n → C (decide (rk i < rk j)) s → cmp i j C s)
include hc
end
end BX.Srt

end
section
set_option Elab.async false
set_option linter.all false
set_option maxRecDepth 100000
set_option maxHeartbeats 4000000
namespace BX
open PySem PySem.Spec L2
open PyProof.Rows hiding St

section
variable {prog : Program} {w : World} {A : Around} {E : Value → Shared → Prop} {s : Shared}
end
end BX

end
section
set_option Elab.async false
set_option linter.all false
set_option maxRecDepth 100000
set_option maxHeartbeats 4000000
namespace BX
open PySem PySem.Spec L2
open PyProof.Rows hiding St

theorem ObjOk.there {P : Program} {w : World} {H : Hp} {h : Heap} {a : Addr} {o : HO} (x : ObjOk P w H h a o) : ∃ u, h.get? a = some u := by
  cases o with
  | lst xs => obtain ⟨_, _, _, _, e⟩ := x; exact ⟨_, e⟩
  | tup xs => obtain ⟨_, _, _, u, e, _⟩ := x; exact ⟨_, e⟩
  | dK kvs => obtain ⟨_, _, _, _, o, _, _, e, _⟩ := x; exact ⟨_, e⟩
  | dT kvs => obtain ⟨_, _, _, _, o, _, _, e, _⟩ := x; exact ⟨_, e⟩
  | set S n => obtain ⟨o, _, _, _, e, _⟩ := x; exact ⟨_, e⟩
  | ins C dx fs => obtain ⟨_, _, _, e, _⟩ := x; exact ⟨_, e⟩
  | own y => obtain ⟨_, e⟩ := x; exact ⟨_, e⟩
  | xd fs => obtain ⟨_, ⟨_, _, _, e, _⟩, _⟩ := x; exact ⟨_, e⟩
  | rng lo hi => obtain ⟨_, _, _, e⟩ := x; exact ⟨_, e⟩
  | frz ob u => obtain ⟨e, _⟩ := x; exact ⟨_, e⟩
  | tbl ps => exact ⟨_, (show h.get? a = some _ from x)⟩
  | met f y => exact ⟨_, (show h.get? a = some _ from x)⟩
  | ext φ => obtain ⟨_, ⟨_, e⟩, _⟩ := x; exact ⟨_, e⟩
end BX

end
section
set_option Elab.async false
set_option linter.all false
set_option maxRecDepth 100000
set_option maxHeartbeats 4000000
namespace BX
open PySem PySem.Spec L2
open PyProof.Rows hiding St

structure PairAt (h : Heap) (u : Value) (p : Int × Int) : Prop where
  ex : ∃ a o k t t', u = .ref a ∧ h.get? a = some o ∧ o.cls = .type "tuple" ∧ o.data = .seq #[.int p.1 t, .int p.2 t'] k
theorem getD_some {α : Type} {l : List α} {i : Nat} {d x : α} (h : l[i]? = some x) : l.getD i d = x := by simp [List.getD, h]

end BX

end
section
set_option Elab.async false
set_option linter.all false
set_option maxRecDepth 100000
set_option maxHeartbeats 4000000
namespace BX
open PySem PySem.Spec L2
open PyProof.Rows hiding St
section
variable {X : Cx}
variable {a b : Expr} {fa fb : Rho → Option PyData} {pos p2 : Pos}
noncomputable def dNeg : PyData → Option PyData
  | .int i => some (.int (-i))
  | _ => none
theorem pd_neg (h : PD X a fa) : PD X (.UnaryOp .USub a pos) (fun ρ => (fa ρ).bind dNeg) := by
  with_unfolding_all
   refine PE.imp (pe_un un_neg h) fun σ H Q ⟨ρ, d, en, q, k⟩ => ?_
   cases h1 : fa ρ with
   | none => simp [h1] at q
   | some y =>
     refine ⟨ρ, y, en, h1, fun v H1 s1 r1 => ?_⟩
     have q' : dNeg y = some d := by simpa [h1] using q
     cases y with
     | int i => cases q'; cases (show v = _ from r1); exact ⟨i, rfl, k _ H1 s1 rfl⟩
     | _ => cases q'
end
end BX

end
section
set_option Elab.async false
set_option linter.all false
set_option maxRecDepth 100000
set_option maxHeartbeats 4000000
namespace BX
open PySem PySem.Spec L2
open PyProof.Rows hiding St
variable {X : Cx}
end BX

end
section
set_option Elab.async false
set_option linter.all false
set_option maxRecDepth 100000
set_option maxHeartbeats 4000000
namespace BX
open PySem PySem.Spec L2
open PyProof.Rows hiding St
variable {X : Cx}
noncomputable def litL (f : Expr → Option PyData) : List Expr → Option (List PyData)
  | [] => some []
  | e :: es => (f e).bind fun d => (litL f es).map fun ds => d :: ds
noncomputable def lit : Nat → Expr → Option PyData
  | 0, _ => none
  | n + 1, e => match e with
    | .Constant (.int i) _ _ => some (.int i)
    | .Constant (.bool b) _ _ => some (.bool b)
    | .Constant .none _ _ => some .none
    | .Constant (.str x) _ _ => some (.str x)
    | .Tuple es _ _ => (litL (lit n) es).bind fun ds => if few ds = true then some (.tuple ds) else none
    | .List es _ => (litL (lit n) es).bind fun ds => if few ds = true then some (.list ds) else none
    | _ => none
theorem PD.as {e : Expr} {F G : Rho → Option PyData} (h : PD X e F) (hi : ∀ ρ d, G ρ = some d → F ρ = some d) : PD X e G := by
  with_unfolding_all exact (PE.imp h fun σ H Q ⟨ρ, d, en, q, k⟩ => ⟨ρ, d, en, hi ρ d q, k⟩)
theorem PAD.as {es : List Expr} {F G : Rho → Option (List PyData)} (h : PAD X es F) (hi : ∀ ρ d, G ρ = some d → F ρ = some d) : PAD X es G := by
  with_unfolding_all exact (PA.imp h fun σ H Q ⟨ρ, d, en, q, k⟩ => ⟨ρ, d, en, hi ρ d q, k⟩)
noncomputable def NoStar (e : Expr) : Prop := ∀ (es : List Expr) (env : Env), starEach (e :: es) env = (false, eval e env) :: starEach es env
theorem pad_lit {f : Expr → Option PyData} (hf : ∀ e d, f e = some d → PD X e (cst d) ∧ NoStar e) : ∀ (es : List Expr) (ds : List PyData), litL f es = some ds → PAD X es (fun _ => some ds)
  | [], ds, h => by cases h; exact pad_nil
  | e :: es, ds, h => by
    cases h1 : f e with
    | none => simp [litL, h1] at h
    | some d =>
      cases h2 : litL f es with
      | none => simp [litL, h1, h2] at h
      | some r =>
        have : d :: r = ds := by with_unfolding_all simpa [litL, h1, h2] using h
        subst this
        obtain ⟨p, st⟩ := hf e d h1
        exact (pad_cons p (pad_lit hf es r h2) (st es X.env)).as fun ρ d' q => by cases q; simp [consA, cst]
theorem lit_ok : ∀ (n : Nat) (e : Expr) (d : PyData), lit n e = some d → PD X e (cst d) ∧ NoStar e
  | 0, e, d, h => by cases h
  | n + 1, e, d, h => by
    unfold lit at h
    split at h
    · cases h; exact ⟨pd_int, fun _ _ => rfl⟩
    · cases h; exact ⟨pd_bl, fun _ _ => rfl⟩
    · cases h; exact ⟨pd_non, fun _ _ => rfl⟩
    · cases h; exact ⟨pd_str, fun _ _ => rfl⟩
    · rename_i es x1 pos
      cases h1 : litL (lit n) es with
      | none => simp [h1] at h
      | some ds =>
        by_cases hf : few ds = true
        · have : PyData.tuple ds = d := by with_unfolding_all simpa [h1, hf] using h
          subst this
          exact ⟨(pd_tup (pad_lit (lit_ok n) es ds h1)).as fun ρ d' q => by cases q; simp [tupD, hf], fun _ _ => rfl⟩
        · simp [h1, hf] at h
    · rename_i es pos
      cases h1 : litL (lit n) es with
      | none => simp [h1] at h
      | some ds =>
        by_cases hf : few ds = true
        · have : PyData.list ds = d := by simpa [h1, hf] using h
          subst this
          exact ⟨(pd_lst (pad_lit (lit_ok n) es ds h1)).as fun ρ d' q => by cases q; simp [lstD, hf], fun _ _ => rfl⟩
        · simp [h1, hf] at h
    · cases h
theorem pd_lit (n : Nat) {e : Expr} (d : PyData) (h : lit n e = some d) : PD X e (cst d) := by
  with_unfolding_all exact ((lit_ok n e d h).1)
end BX

end
section
set_option Elab.async false
set_option linter.all false
set_option maxRecDepth 100000
set_option maxHeartbeats 4000000
namespace BX
open PySem L2
open PyProof.Rows hiding St
noncomputable def TopFn (K : PySem.W.Frag) (x : Str) (st : Stmt) : Prop :=
  ∃ (f : Addr) (oc : Value) (od an : Option Addr) (kV doc pm cdv ct : Value) (osl : Array (Option Value)), PySem.W.nsIn K mainGlobals x = some (some (.ref f)) ∧
    K.lookup f = some ⟨oc, od, .func (PySem.W.fnOf x x (defArgs st) (defBody st) (defScope st) .none kV doc pm an cdv ct), osl⟩ ∧ PySem.W.codeIn K cdv x = true ∧ PySem.W.keepIn K (.ref f) = true
theorem topfn_mk {K : PySem.W.Frag} {x : Str} {st : Stmt} {f : Addr} {oc : Value} {od an : Option Addr} {kV doc pm cdv ct : Value} {osl : Array (Option Value)} (a : PySem.W.nsIn K mainGlobals x = some (some (.ref f)))
    (l : K.lookup f = some ⟨oc, od, .func (PySem.W.fnOf x x (defArgs st) (defBody st) (defScope st) .none kV doc pm an cdv ct), osl⟩) (c : PySem.W.codeIn K cdv x = true) (k : PySem.W.keepIn K (.ref f) = true) : TopFn K x st :=
  ⟨f, oc, od, an, kV, doc, pm, cdv, ct, osl, a, l, c, k⟩
noncomputable abbrev PlainArgs (x : Str) (st : Stmt) (ps : List Str) : Prop := ∀ (kV doc pm : Value) (an : Option Addr) (cdv ct : Value) (us : List Value), us.length = ps.length → bindArgs (PySem.W.fnOf x x (defArgs st) (defBody st) (defScope st) .none kV doc pm an cdv ct) ⟨us, []⟩ = pure (ps.zip us)
theorem TopFn.callee {P : Program} {w : World} {K : PySem.W.Frag} {mg : Str → Option Value} {base h : Heap} {x : Str} {st : Stmt} {ps : List Str} {k n : Nat} {g : List PyData → Option PyData} (T : TopFn K x st) (X : K.In h) (G : h.Ns mainGlobals mg)
    (hb : PlainArgs x st ps) (F : ∀ (f : Addr) (fd : FuncData), Fun K x x st f fd → FnOk P w K mg base CX0 k f fd ps (Pur K n g)) : Callee P w K mg base x ps k n g := by
  obtain ⟨f, oc, od, an, kV, doc, pm, cdv, ct, osl, a, l, c, kp⟩ := T
  have F1 := fun_mk (st := st) l c kp
  exact ⟨f, _, F f _ F1, PySem.W.mg_of X G a, kp, F1.binds hb⟩
theorem Callee.as {P : Program} {w : World} {K : PySem.W.Frag} {mg : Str → Option Value} {base : Heap} {x : Str} {ps : List Str} {k n : Nat} {g g' : List PyData → Option PyData} (C : Callee P w K mg base x ps k n g) (h : ∀ ds d, g' ds = some d → g ds = some d) : Callee P w K mg base x ps k n g' := by
  obtain ⟨f, fd, F, a, b, c⟩ := C
  exact ⟨f, fd, fn_as F fun ds d _ q => h ds d q, a, b, c⟩
theorem gc_tuple {K : PySem.W.Frag} {mg : Str → Option Value} {h : Heap} {x : Str} {a : Addr} {ob : Obj} {ds : List PyData} (X : K.In h) (G : h.Ns mainGlobals mg) (e : PySem.W.nsIn K mainGlobals x = some (some (.ref a))) (l : K.lookup a = some ob)
    (hc : ob.cls = .type "tuple") (hi : ∃ (its : Array Value) (n : Nat) (xs : List V), ob.data = .seq its n ∧ its.size ≤ sizeLine ∧ Vals xs its.toList ∧ ∀ H, Reps K H ds xs) : ∃ v u, mg x = some u ∧ RelV v u ∧ ∀ H, Rep K H (.tuple ds) v := by
  obtain ⟨its, n, xs, h1, h2, h3, h4⟩ := hi
  exact ⟨.ref a, .ref a, PySem.W.mg_of X G e, rfl, fun H => ⟨a, xs, rfl, .inr ⟨ob, its, n, l, hc, h1, h2, h3⟩, h4 H⟩⟩
end BX

end
section
set_option Elab.async false
set_option linter.all false
set_option maxRecDepth 100000
set_option maxHeartbeats 4000000
namespace BX
open PySem PySem.Spec L2
open PyProof.Rows hiding St

noncomputable def sealL (a : Addr) (xs : List V) : HO := .ext fun h => xs.length ≤ sizeLine ∧ ∃ (its : List Value) (n : Nat), Vals xs its ∧ h.get? a = some { cls := .type "list", data := .seq its.toArray n }
noncomputable def sealD (P : Program) (w : World) (a : Addr) (ob : Obj) (ks : List (Key × V)) : HO := .ext fun h => h.get? a = some ob ∧ ks.length ≤ sizeLine ∧ (a == sysModules) = false ∧ ∃ vs, KV ks vs ∧ h.DictOf (mixKind P w) a vs
inductive Seal (P : Program) (w : World) (a : Addr) : HO → HO → Prop where
  | l (xs : List V) : Seal P w a (sealL a xs) (.lst xs)
  | d (ob : Obj) (ks : List (Key × V)) : Seal P w a (sealD P w a ob ks) (.frz ob (.dK ks))
theorem Seal.ext {P : Program} {w : World} {a : Addr} {c o : HO} (S : Seal P w a c o) : ∃ φ, c = .ext φ := by cases S <;> exact ⟨_, rfl⟩
section
variable {X : Cx} {pins : List (Addr × Obj)} {σ : St} {H : Hp} {s : Shared} {a : Addr} {c o : HO}
theorem Inv.opened (I : Inv X pins σ H s) (S : Seal X.prog X.w a c o) (e : H a = some c) : Inv X pins σ (upd H a o) s := by
  have q := I.hok a c e
  have mu : Mut (H a) := by rw [e]; obtain ⟨φ, rfl⟩ := S.ext; trivial
  cases S with
  | l xs =>
    obtain ⟨h1, h2, _⟩ := q
    exact I.write (x := a) (e := a) (h' := s.heap) (t' := s.toks) mu (.inl rfl) (fun _ _ _ z => z) h2 h1
  | d ob ks =>
    obtain ⟨h1, h2, _⟩ := q
    exact I.write (x := a) (e := a) (h' := s.heap) (t' := s.toks) mu (.inl rfl) (fun _ _ _ z => z) h2 ⟨h1.1, h1.2⟩
theorem Inv.redesc {o1 o2 : HO} (I : Inv X pins σ H s) (h1 : H a = some o1) (n1 : ∀ y, o1 ≠ .own y) (n2 : ∀ xs, o1 ≠ .tup xs) (n3 : ∀ ps, o1 ≠ .tbl ps) (nf : ∀ ob u, X.H₀ a ≠ some (.frz ob u)) (new : ObjOk X.prog X.w (upd H a o2) s.heap a o2) : Inv X pins σ (upd H a o2) s := by
  have na : ∀ b, H b = none → upd H a o2 b = none := fun b z => by
    have : b ≠ a := fun q => by subst q; rw [h1] at z; cases z
    rw [upd_ne this]; exact z
  refine ⟨I.ok, I.os, I.bare, ⟨I.base.keep, I.base.slot, fun b u q n hx => na b (I.base.free b u q n hx), I.base.there, fun b xs q => ?_, fun b ob u q => ?_, fun b ps q => ?_⟩, I.loc, I.cell, na _ I.free, fun x c' q => na _ (I.freeC x c' q), fun p hp => ?_, fun b u q => ?_, I.len⟩
  · have q' := I.base.tups b xs q
    have : b ≠ a := fun z => by subst z; rw [h1] at q'; cases q'; exact n2 _ rfl
    rw [upd_ne this]; exact q'
  · have : b ≠ a := fun z => by subst z; exact nf _ _ q
    rw [upd_ne this]; exact I.base.frzs b ob u q
  · obtain ⟨more, q'⟩ := I.base.tbls b ps q
    have : b ≠ a := fun z => by subst z; rw [h1] at q'; cases q'; exact n3 _ rfl
    exact ⟨more, by rw [upd_ne this]; exact q'⟩
  · obtain ⟨g1, g2, g3⟩ := I.pin p hp
    exact ⟨g1, na _ g2, g3⟩
  · by_cases hb : b = a
    · subst hb
      rw [upd_same] at q; cases q
      exact new
    · rw [upd_ne hb] at q
      refine (I.hok b u q).stay (fun c' v _ z => z) (fun c' z => ?_) fun c' xs z => ?_
      · have : c' ≠ a := fun m => by subst m; rw [h1] at z; cases z; exact n1 _ rfl
        rw [upd_ne this]; exact z
      · have : c' ≠ a := fun m => by subst m; rw [h1] at z; cases z; exact n2 _ rfl
        rw [upd_ne this]; exact z
theorem Inv.nofrz {φ : Heap → Prop} (I : Inv X pins σ H s) (e : H a = some (.ext φ)) : ∀ ob u, X.H₀ a ≠ some (.frz ob u) := fun ob u z => by
  have := I.base.frzs _ _ _ z
  rw [e] at this; cases this
theorem Inv.closed (I : Inv X pins σ H s) (S : Seal X.prog X.w a c o) (e : H a = some o) (nf : ∀ ob u, X.H₀ a ≠ some (.frz ob u)) : Inv X pins σ (upd H a c) s := by
  have q := I.hok a o e
  cases S with
  | l xs =>
    obtain ⟨h1, its, n, h2, h3⟩ := q
    refine I.write (x := a) (e := a) (h' := s.heap) (t' := s.toks) (by rw [e]; trivial) (.inl rfl) (fun _ _ _ z => z) ⟨_, h3⟩ ⟨⟨h1, its, n, h2, h3⟩, ⟨_, h3⟩, ?_⟩
    rintro g1 g2 ⟨z1, its, n, z2, z3⟩ k
    exact ⟨z1, its, n, z2, k _ z3⟩
  | d ob ks =>
    obtain ⟨h0, h1, h2, vs, h3, ob', es, ep, h4, h5⟩ := q
    refine Inv.redesc I e (fun _ z => nomatch z) (fun _ z => nomatch z) (fun _ z => nomatch z) nf ⟨⟨h0, h1, h2, vs, h3, ob', es, ep, h4, h5⟩, ⟨_, h4⟩, ?_⟩
    rintro g1 g2 ⟨z0, z1, z2, vs, z3, ob', es, ep, z4, z5⟩ k
    exact ⟨k _ z0, z1, z2, vs, z3, ob', es, ep, k _ z4, z5⟩
end
mutual
noncomputable def noD : PyData → Bool
  | .tuple ds => noDs ds
  | .list ds => noDs ds
  | .dict _ => false
  | _ => true
noncomputable def noDs : List PyData → Bool
  | [] => true
  | d :: ds => noD d && noDs ds
end
noncomputable def SameM (H H' : Hp) : Prop := ∀ b o, H b = some o → (∀ ob ks, o ≠ .frz ob (.dK ks)) → H' b = some o
section
variable {K : PySem.W.Frag} {H H' : Hp}
theorem SameM.tup {a : Addr} {xs : List V} (e : SameM H H') (h : SqT K H a xs) : SqT K H' a xs := by
  rcases h with (h | ⟨o, h⟩) | h
  · exact .inl (.inl (e _ _ h fun _ _ z => nomatch z))
  · exact .inl (.inr ⟨o, e _ _ h fun _ _ z => nomatch z⟩)
  · exact .inr h
mutual
theorem Rep.monoM (e : SameM H H') : ∀ (d : PyData) (v : V), noD d = true → Rep K H d v → Rep K H' d v
  | .none, v, _, h => h
  | .bool _, v, _, h => h
  | .int _, v, _, h => h
  | .str _, v, _, h => h
  | .tuple ds, v, n, ⟨a, xs, h1, h2, h3⟩ => ⟨a, xs, h1, SameM.tup e h2, Reps.monoM e ds xs (by simpa [noD] using n) h3⟩
  | .list ds, v, n, ⟨a, xs, h1, h2, h3⟩ => ⟨a, xs, h1, e _ _ h2 (fun _ _ z => nomatch z), Reps.monoM e ds xs (by simpa [noD] using n) h3⟩
  | .dict ds, v, n, h => by simp [noD] at n
theorem Reps.monoM (e : SameM H H') : ∀ (ds : List PyData) (xs : List V), noDs ds = true → Reps K H ds xs → Reps K H' ds xs
  | [], xs, _, h => h
  | d :: ds, xs, n, ⟨x, r, h1, h2, h3⟩ => by
    have n' : noD d = true ∧ noDs ds = true := by simpa [noDs] using n
    exact ⟨x, r, h1, Rep.monoM e d x n'.1 h2, Reps.monoM e ds r n'.2 h3⟩
end
end
noncomputable def okB (c d : PyData) : Bool := match c with
  | .list _ => noL d
  | .dict _ => noD d
  | _ => false
noncomputable def OwnAt (P : Program) (w : World) (K : PySem.W.Frag) (H : Hp) (a : Addr) : PyData → Prop
  | .list ds => ∃ xs, H a = some (sealL a xs) ∧ Reps K H ds xs
  | .dict kvs => ∃ ks r ob, kvs = (.none, .none) :: r ∧ H a = some (sealD P w a ob ks) ∧ RepM K H r ks
  | _ => False
theorem OwnAt.out {P : Program} {w : World} {K : PySem.W.Frag} {H : Hp} {a : Addr} {d : PyData} (h : OwnAt P w K H a d) : ∃ c o, Seal P w a c o ∧ H a = some c ∧
    (∀ H', SameE H H' → H' a = some o → Rep K H' d (.ref a)) ∧ (∀ H', SameE H H' → H' a = some c → OwnAt P w K H' a d) ∧
    ∀ x H3 v, okB d x = true → H3 a = some o → Rep K H3 x v → Rep K (upd H3 a c) x v := by
  cases d with
  | list ds =>
    obtain ⟨xs, h1, h2⟩ := h
    exact ⟨_, _, .l xs, h1, fun H' e q => ⟨a, xs, rfl, q, Reps.monoE e _ _ h2⟩, fun H' e q => ⟨xs, q, Reps.monoE e _ _ h2⟩, fun x H3 v n q r => Rep.monoN (fun b u hb m => by
      have : b ≠ a := fun z => by subst z; rw [q] at hb; cases hb; exact m _ rfl
      rw [upd_ne this]; exact hb) x v n r⟩
  | dict kvs =>
    obtain ⟨ks, r, ob, rfl, h1, h2⟩ := h
    exact ⟨_, _, .d ob ks, h1, fun H' e q => ⟨a, rfl, .inr (.inl ⟨ks, ob, q, show RepM K H' r ks from RepM.monoE e _ _ h2⟩)⟩, fun H' e q => ⟨ks, r, ob, rfl, q, RepM.monoE e _ _ h2⟩, fun x H3 v n q r => Rep.monoM (fun b u hb m => by
      have : b ≠ a := fun z => by subst z; rw [q] at hb; cases hb; exact m _ _ rfl
      rw [upd_ne this]; exact hb) x v n r⟩
  | none => exact h.elim
  | bool _ => exact h.elim
  | int _ => exact h.elim
  | str _ => exact h.elim
  | tuple _ => exact h.elim
theorem SameE.upd {H : Hp} {a : Addr} {φ : Heap → Prop} {o : HO} (e : H a = some (.ext φ)) : SameE H (upd H a o) := fun b u h n => by
  have : b ≠ a := fun z => by subst z; rw [e] at h; cases h; exact n _ rfl
  rw [upd_ne this]; exact h

structure EnvO (P : Program) (w : World) (K : PySem.W.Frag) (Hs H : Hp) (own : Option Nat) (ρ : Rho) (σ : St) : Prop where
  len : ρ.length = σ.length
  sm : Same Hs H
  pl : ∀ i d, ρ[i]? = some (some d) → own ≠ some i → ∃ v, σ[i]? = some (some v) ∧ Rep K H d v
  ow : ∀ i, own = some i → ∃ d a, ρ[i]? = some (some d) ∧ σ[i]? = some (some (.ref a)) ∧ Hs a = none ∧ OwnAt P w K H a d
noncomputable def hid (own : Option Nat) (ρ : Rho) : Rho := match own with
  | none => ρ
  | some i => ρ.set i none
section
variable {P : Program} {w : World} {K : PySem.W.Frag} {Hs H H' : Hp} {own : Option Nat} {ρ : Rho} {σ : St}
theorem EnvO.of (e : EnvR K H ρ σ) (s : Same Hs H) : EnvO P w K Hs H none ρ σ := ⟨e.len, s, fun i d h _ => e.at' i d h, fun i z => nomatch z⟩
theorem EnvO.to (e : EnvO P w K Hs H none ρ σ) : EnvR K H ρ σ := ⟨e.len, fun i d h => e.pl i d h (fun z => nomatch z)⟩
theorem EnvO.hid (e : EnvO P w K Hs H own ρ σ) : EnvR K H (hid own ρ) σ := by
  cases own with
  | none => exact e.to
  | some i =>
    refine ⟨by simp [BX.hid, e.len], fun j d h => ?_⟩
    by_cases hj : i = j
    · subst hj
      simp only [BX.hid] at h
      rw [List.getElem?_set] at h
      simp at h
    · simp only [BX.hid] at h
      rw [List.getElem?_set_ne hj] at h
      exact e.pl j d h (fun z => hj (Option.some.inj z))
theorem OwnAt.mono {a : Addr} {d : PyData} (h : OwnAt P w K H a d) (s : Same H H') : OwnAt P w K H' a d := by
  obtain ⟨c, o, _, h1, _, h2, _⟩ := h.out
  exact h2 H' (Same.e s) (s _ _ h1)
theorem EnvO.mono (e : EnvO P w K Hs H own ρ σ) (s : Same H H') : EnvO P w K Hs H' own ρ σ :=
  ⟨e.len, e.sm.trans s, fun i d h n => let ⟨v, h1, h2⟩ := e.pl i d h n; ⟨v, h1, Rep.mono s d v h2⟩, fun i n => let ⟨d, a, h1, h2, h3, h4⟩ := e.ow i n; ⟨d, a, h1, h2, h3, h4.mono s⟩⟩
theorem EnvO.opn {i : Nat} (e : EnvO P w K Hs H (some i) ρ σ) : ∃ d a c o, ρ[i]? = some (some d) ∧ σ[i]? = some (some (.ref a)) ∧ Hs a = none ∧ Seal P w a c o ∧ H a = some c ∧ EnvR K (upd H a o) ρ σ ∧ Same Hs (upd H a o) ∧
    (∀ H3, Same (upd H a o) H3 → SameE H (upd H3 a c) ∧ EnvO P w K Hs (upd H3 a c) (some i) ρ σ) ∧ ∀ x H3 v, okB d x = true → H3 a = some o → Rep K H3 x v → Rep K (upd H3 a c) x v := by
  obtain ⟨d, a, h1, h2, h3, h4⟩ := e.ow i rfl
  obtain ⟨c, o, S, h5, h6, h7, h8⟩ := h4.out
  obtain ⟨φ, rfl⟩ := S.ext
  have s1 : SameE H (upd H a o) := SameE.upd h5
  have sH : ∀ {H2 : Hp}, (∀ b u, b ≠ a → H b = some u → H2 b = some u) → Same Hs H2 := fun {H2} k b u q => k b u (fun z => by subst z; rw [h3] at q; cases q) (e.sm b u q)
  refine ⟨d, a, _, o, h1, h2, h3, S, h5, ⟨e.len, fun j x q => ?_⟩, sH fun b u n q => by rw [upd_ne n]; exact q, fun H3 s3 => ⟨fun b u q m => ?_, e.len, sH fun b u n q => by rw [upd_ne n]; exact s3 b u (by rw [upd_ne n]; exact q), fun j x q n => ?_, fun j n => ?_⟩, h8⟩
  · by_cases hj : i = j
    · subst hj
      rw [h1] at q; cases q
      exact ⟨.ref a, h2, h6 _ s1 upd_same⟩
    · obtain ⟨v, g1, g2⟩ := e.pl j x q (fun z => hj (Option.some.inj z))
      exact ⟨v, g1, Rep.monoE s1 _ _ g2⟩
  · have : b ≠ a := fun z => by subst z; rw [h5] at q; cases q; exact m _ rfl
    rw [upd_ne this]
    exact s3 b u (by rw [upd_ne this]; exact q)
  · have s4 : SameE H (upd H3 a (.ext φ)) := fun b u q m => by
      have : b ≠ a := fun z => by subst z; rw [h5] at q; cases q; exact m _ rfl
      rw [upd_ne this]
      exact s3 b u (by rw [upd_ne this]; exact q)
    obtain ⟨v, g1, g2⟩ := e.pl j x q n
    exact ⟨v, g1, Rep.monoE s4 _ _ g2⟩
  · cases n
    have s4 : SameE H (upd H3 a (.ext φ)) := fun b u q m => by
      have : b ≠ a := fun z => by subst z; rw [h5] at q; cases q; exact m _ rfl
      rw [upd_ne this]
      exact s3 b u (by rw [upd_ne this]; exact q)
    exact ⟨d, a, h1, h2, h3, h7 _ s4 upd_same⟩
end
end BX

end
section
set_option Elab.async false
set_option linter.all false
set_option maxRecDepth 100000
set_option maxHeartbeats 4000000
namespace BX
open PySem PySem.Spec L2
open PyProof.Rows hiding St
noncomputable def brw (own : Option Nat) (f : Rho → Option PyData) : Rho → Option PyData := fun ρ => match f (hid own ρ) with
  | some d => some d
  | none => match own with
    | none => none
    | some i => match f ρ, lkp i ρ with
      | some d, some c => if okB c d = true then some d else none
      | _, _ => none
theorem brw_out {own : Option Nat} {f : Rho → Option PyData} {ρ : Rho} {d : PyData} (h : brw own f ρ = some d) : f (hid own ρ) = some d ∨ ∃ i c, own = some i ∧ f ρ = some d ∧ ρ[i]? = some (some c) ∧ okB c d = true := by
  unfold brw at h
  cases h1 : f (hid own ρ) with
  | some x => rw [h1] at h; exact .inl h
  | none =>
    rw [h1] at h
    cases own with
    | none => cases h
    | some i =>
      simp only at h
      cases h2 : f ρ with
      | none => rw [h2] at h; cases h
      | some x =>
        rw [h2] at h
        cases h3 : lkp i ρ with
        | none => rw [h3] at h; cases h
        | some c =>
          rw [h3] at h
          simp only at h
          split at h
          · rename_i ok
            cases h
            exact .inr ⟨i, c, rfl, rfl, lkp_some h3, ok⟩
          · cases h
section
variable {X : Cx} {e a b c tg src : Expr} {es : List Expr} {st : Stmt} {sts rest : List Stmt} {fa fb fc : Rho → Option PyData} {F G : Rho → Option Out} {pos : Pos} {own : Option Nat}
noncomputable def tE (P : Program) (w : World) (K : PySem.W.Frag) (own : Option Nat) (f : Rho → Option PyData) : TE := fun σ H Q => ∃ Hs ρ d, EnvO P w K Hs H own ρ σ ∧ brw own f ρ = some d ∧ ∀ v H', SameE H H' → EnvO P w K Hs H' own ρ σ → Rep K H' d v → Q v H'
theorem pe_brw (h : PD X e fa) : PE X e (tE X.prog X.w X.K own fa) := by
  with_unfolding_all
   intro pins s σ H Q I ⟨Hs, ρ, d, E, hb, k⟩
   rcases brw_out hb with h1 | ⟨i, c, ho, h1, h2, ok⟩
   · exact h pins s σ H Q I ⟨hid own ρ, d, E.hid, h1, fun v H' s r => k v H' (Same.e s) (E.mono s) r⟩
   · subst ho
     obtain ⟨d0, a, cl, o, g1, g2, g3, S, g4, env, sm, back, keep⟩ := E.opn
     rw [h2] at g1; cases g1
     refine thn (h pins s σ (upd H a o) (fun v H3 => Same (upd H a o) H3 ∧ Rep X.K H3 d v) (Inv.opened I S g4) ⟨ρ, d, env, h1, fun v H3 s3 r3 => ⟨s3, r3⟩⟩) fun u s1 ⟨v, H3, I3, r, s3, r3⟩ => ?_
     have e3 : H3 a = some o := s3 _ _ upd_same
     exact ⟨v, upd H3 a cl, Inv.closed I3 S e3 (by obtain ⟨φ, rfl⟩ := S.ext; exact Inv.nofrz I g4), r, k v _ (back H3 s3).1 (back H3 s3).2 (keep d H3 v ok e3 r3)⟩
noncomputable def tF (P : Program) (w : World) (K : PySem.W.Frag) (own : Option Nat) (f : Rho → Option PyData) : TE := fun σ H Q => ∃ Hs ρ d, EnvO P w K Hs H own ρ σ ∧ f ρ = some d ∧ ∀ v H', Same Hs H' → Rep K H' d v → Q v H'
theorem pe_fin (h : PD X e fa) : PE X e (tF X.prog X.w X.K own fa) := by
  with_unfolding_all
   intro pins s σ H Q I ⟨Hs, ρ, d, E, h1, k⟩
   cases own with
   | none => exact h pins s σ H Q I ⟨ρ, d, E.to, h1, fun v H' s r => k v H' (E.sm.trans s) r⟩
   | some i =>
     obtain ⟨d0, a, cl, o, g1, g2, g3, S, g4, env, sm, back, keep⟩ := E.opn
     exact h pins s σ (upd H a o) Q (Inv.opened I S g4) ⟨ρ, d, env, h1, fun v H3 s3 r3 => k v H3 (sm.trans s3) r3⟩

noncomputable def contO (P : Program) (w : World) (K : PySem.W.Frag) (Hs : Hp) (own : Option Nat) (D : Ends) : Out → Prop
  | .nx ρ => ∀ σ H, EnvO P w K Hs H own ρ σ → D.nx σ H
  | .rt d => ∀ v H, Same Hs H → Rep K H d v → D.rt v H
  | .bk ρ => ∀ σ H, EnvO P w K Hs H own ρ σ → D.bk σ H
  | .ct ρ => ∀ σ H, EnvO P w K Hs H own ρ σ → D.ct σ H
noncomputable def tOS (P : Program) (w : World) (K : PySem.W.Frag) (own : Option Nat) (F : Rho → Option Out) : TS := fun D σ H => ∃ Hs ρ o, EnvO P w K Hs H own ρ σ ∧ F ρ = some o ∧ contO P w K Hs own D o
@[irreducible] noncomputable def PSO (X : Cx) (own : Option Nat) (st : Stmt) (F : Rho → Option Out) : Prop := PS X st (tOS X.prog X.w X.K own F)
@[irreducible] noncomputable def PSsO (X : Cx) (own : Option Nat) (sts : List Stmt) (F : Rho → Option Out) : Prop := PSs X sts (tOS X.prog X.w X.K own F)
theorem psso_toD (h : PSsO X none sts F) : PSsD X sts F := by
  with_unfolding_all
   refine PSs.imp h fun D σ H ⟨ρ, o, en, q, k⟩ => ⟨H, ρ, o, EnvO.of en (Same.refl H), q, ?_⟩
   cases o with
   | nx ρ' => exact fun σ' H' E => k σ' H' E.sm E.to
   | rt d => exact fun v H' s r => k v H' s r
   | bk ρ' => exact fun σ' H' E => k σ' H' E.sm E.to
   | ct ρ' => exact fun σ' H' E => k σ' H' E.sm E.to
theorem psso_nil : PSsO X own [] nxtS := by
  with_unfolding_all
   refine PSs.imp pss_nil fun D σ H ⟨Hs, ρ, o, E, q, k⟩ => ?_
   cases q
   exact k σ H E
theorem psso_cons (h1 : PSO X own st F) (h2 : PSsO X own rest G) : PSsO X own (st :: rest) (seqS F G) := by
  with_unfolding_all
   refine PSs.imp (pss_cons h1 h2) fun D σ H ⟨Hs, ρ, o, E, q, k⟩ => ?_
   cases hf : F ρ with
   | none => simp [seqS, hf] at q
   | some p =>
     refine ⟨Hs, ρ, p, E, hf, ?_⟩
     cases p with
     | nx ρ' => exact fun σ' H' E' => ⟨Hs, ρ', o, E', by simpa [seqS, hf] using q, k⟩
     | rt d => have : Out.rt d = o := by simpa [seqS, hf] using q
               subst this; exact k
     | bk d => have : Out.bk d = o := by simpa [seqS, hf] using q
               subst this; exact k
     | ct d => have : Out.ct d = o := by simpa [seqS, hf] using q
               subst this; exact k
theorem pso_ret (h : PD X e fa) : PSO X own (.Return (some e) pos) (retD fa) := by
  with_unfolding_all
   refine PS.imp (ps_ret (pe_fin (own := own) h)) fun D σ H ⟨Hs, ρ, o, E, q, k⟩ => ?_
   cases h1 : fa ρ with
   | none => simp [retD, h1] at q
   | some d =>
     have : Out.rt d = o := by simpa [retD, h1] using q
     subst this
     exact ⟨Hs, ρ, d, E, h1, k⟩
theorem EnvO.set {P : Program} {w : World} {K : PySem.W.Frag} {Hs H : Hp} {ρ : Rho} {σ : St} {i : Nat} {d : PyData} {v : V} (E : EnvO P w K Hs H own ρ σ) (hi : own ≠ some i) (r : Rep K H d v) : EnvO P w K Hs H own (ρ.set i (some d)) (σ.set i (some v)) := by
  refine ⟨by simp [E.len], E.sm, fun j x q n => ?_, fun j n => ?_⟩
  · by_cases hj : i = j
    · subst hj
      rw [List.getElem?_set] at q ⊢
      simp only [if_true] at q ⊢
      by_cases hl : i < ρ.length
      · rw [if_pos hl] at q
        rw [if_pos (by rw [← E.len]; exact hl)]
        cases q
        exact ⟨v, rfl, r⟩
      · rw [if_neg hl] at q; cases q
    · rw [List.getElem?_set_ne hj] at q ⊢
      exact E.pl j x q n
  · have hj : i ≠ j := fun z => by subst z; exact hi n
    rw [List.getElem?_set_ne hj, List.getElem?_set_ne hj]
    exact E.ow j n
theorem pso_set (i : Nat) {x : Str} {pos' : Pos} (hN : X.N.Nodup) (he : PD X e fa) (ho : own ≠ some i := by decide) (hi : X.N[i]? = some x := by rfl) (hx : Loc X.env.scope x := by first | exact Or.inl rfl | exact Or.inr rfl) (hs : swapsWith e (some (.Name x pos')) pos.line X.env = pure false := by rfl)
    (hf : X.fn x = true ∨ X.env.scope.names.lookup x = some .local := by first | exact .inl rfl | exact .inr rfl | assumption) : PSO X own (.Assign [.Name x pos'] e pos) (asgS (brw own fa) (asgN i)) := by
  with_unfolding_all
   refine PS.imp (ps_set hN hi hx (pe_brw (own := own) he) hs hf) fun D σ H ⟨Hs, ρ, o, E, q, k⟩ => ?_
   cases h1 : brw own fa ρ with
   | none => simp [asgS, h1] at q
   | some d =>
     have : Out.nx (ρ.set i (some d)) = o := by simpa [asgS, h1, asgN] using q
     subst this
     exact ⟨Hs, ρ, d, E, h1, fun v H1 _ E1 r1 => k _ H1 (E1.set ho r1)⟩
end
end BX

end
section
set_option Elab.async false
set_option linter.all false
set_option maxRecDepth 100000
set_option maxHeartbeats 4000000
namespace BX
open PySem PySem.Spec L2
open PyProof.Rows hiding St
section
variable {X : Cx} {e a b c tg src : Expr} {es : List Expr} {st : Stmt} {sts rest body : List Stmt} {fa fb fc : Rho → Option PyData} {F G : Rho → Option Out} {pos : Pos} {own : Option Nat}
@[irreducible] noncomputable def PGO (X : Cx) (own : Option Nat) (tg : Expr) (ga : PyData → Rho → Option Rho) : Prop :=
  PG X tg fun v σ H Q => ∃ Hs ρ d ρ', EnvO X.prog X.w X.K Hs H own ρ σ ∧ Rep X.K H d v ∧ ga d ρ = some ρ' ∧ ∀ σ' H', EnvO X.prog X.w X.K Hs H' own ρ' σ' → Q σ' H'
theorem pgo_name (i : Nat) {x : Str} (hN : X.N.Nodup) (ho : own ≠ some i := by decide) (hi : X.N[i]? = some x := by rfl) (hx : Loc X.env.scope x := by first | exact Or.inl rfl | exact Or.inr rfl)
    (hf : X.fn x = true ∨ X.env.scope.names.lookup x = some .local := by first | exact .inl rfl | exact .inr rfl | assumption) : PGO X own (.Name x pos) (asgN i) := by
  with_unfolding_all
   refine PG.imp (pg_name hN hi hx hf) fun v σ H Q ⟨Hs, ρ, d, ρ', E, r, q, k⟩ => ?_
   cases q
   exact k _ H (E.set ho r)

theorem EnvO.rebase {P : Program} {w : World} {K : PySem.W.Frag} {Hs H : Hp} {ρ : Rho} {σ : St} (E : EnvO P w K Hs H own ρ σ) : ∃ Hb, EnvO P w K Hb H own ρ σ ∧ (∀ H3, Same Hb H3 → SameE H H3) ∧
    (∀ H3 ρ3 σ3, EnvO P w K Hb H3 own ρ3 σ3 → EnvO P w K Hs H3 own ρ3 σ3) ∧ ∀ H3, Same Hb H3 → Same Hs H3 := by
  cases own with
  | none => exact ⟨H, ⟨E.len, Same.refl H, E.pl, fun i z => nomatch z⟩, fun _ s => Same.e s, fun H3 ρ3 σ3 E3 => ⟨E3.len, E.sm.trans E3.sm, E3.pl, fun i z => nomatch z⟩, fun _ s => E.sm.trans s⟩
  | some i =>
    obtain ⟨d, a, h1, h2, h3, h4⟩ := E.ow i rfl
    obtain ⟨c, o, S, h5, _⟩ := h4.out
    obtain ⟨φ, rfl⟩ := S.ext
    let Hb : Hp := fun b => if b = a then none else H b
    have ha : Hb a = none := if_pos rfl
    have hb : ∀ b, b ≠ a → Hb b = H b := fun b n => if_neg n
    have sH : ∀ H3, Same Hb H3 → Same Hs H3 := fun H3 s b u q => by
      have n : b ≠ a := fun z => by subst z; rw [h3] at q; cases q
      exact s b u (by rw [hb b n]; exact E.sm b u q)
    refine ⟨Hb, ⟨E.len, fun b u q => ?_, E.pl, fun j n => ?_⟩, fun H3 s b u q m => ?_, fun H3 ρ3 σ3 E3 => ⟨E3.len, sH H3 E3.sm, E3.pl, fun j n => ?_⟩, sH⟩
    · by_cases n : b = a
      · subst n; rw [ha] at q; cases q
      · rw [hb b n] at q; exact q
    · cases n
      exact ⟨d, a, h1, h2, ha, h4⟩
    · have n : b ≠ a := fun z => by subst z; rw [h5] at q; cases q; exact m _ rfl
      exact s b u (by rw [hb b n]; exact q)
    · obtain ⟨d3, a3, g1, g2, g3, g4⟩ := E3.ow j n
      refine ⟨d3, a3, g1, g2, ?_, g4⟩
      by_cases z : a3 = a
      · rw [z]; exact h3
      · rw [hb a3 z] at g3
        cases q : Hs a3 with
        | none => rfl
        | some u => have := E.sm _ _ q; rw [g3] at this; cases this
theorem pso_for {fi : Rho → Option (List PyData)} {ga : PyData → Rho → Option Rho} (hp : PassesOwn (model X.prog X.w) X.A X.env X.xe) (hc : X.calm = true) (hi : PID X tg src fi) (hg : PGO X own tg ga) (hb : PSsO X own body F)
    (hs : ∀ x, foldedSetIterable src X.env x = pure x := by intro _; rfl) : PSO X own (.For tg src body [] pos) (forS (fun ρ => fi (hid own ρ)) ga F) := by
  with_unfolding_all
   refine PS.imp (ps_for hp hc hi hg hb hs) fun D σ H ⟨Hs, ρ, o, E, q, k⟩ => ?_
   cases h1 : fi (hid own ρ) with
   | none => simp [forS, h1] at q
   | some ds =>
     have q' : loopD ga F ds ρ = some o := by simpa [forS, h1] using q
     refine ⟨hid own ρ, ds, E.hid, h1, fun J H1 s1 Y => ?_⟩
     obtain ⟨Hb, Eb, sE, back, sb⟩ := (E.mono s1).rebase
     refine ⟨fun i m σ H2 => m = ds.length - i ∧ i ≤ ds.length ∧ ∃ ρ2, EnvO X.prog X.w X.K Hb H2 own ρ2 σ ∧ loopD ga F (ds.drop i) ρ2 = some o, ⟨ds.length, by simp, Nat.zero_le _, ρ, Eb, by simpa using q'⟩, ?_⟩
     rintro i m σ2 H2 ⟨rfl, hi, ρ2, en2, q2⟩
     obtain ⟨g1, g2, g3⟩ := Y i H2 (sE H2 en2.sm)
     by_cases hlt : i < ds.length
     · right
       have hd : ds.drop i = ds[i] :: ds.drop (i + 1) := List.drop_eq_getElem_cons hlt
       rw [hd] at q2
       refine ⟨g1 hlt, fun σ3 H3 => ∃ ρ3, EnvO X.prog X.w X.K Hb H3 own ρ3 σ3 ∧ loopD ga F (ds.drop (i + 1)) ρ3 = some o, fun σ3 H3 ⟨ρ3, a2, a3⟩ => ⟨ds.length - (i + 1), by omega, rfl, hlt, ρ3, a2, a3⟩, fun x H3 y => ?_⟩
       obtain ⟨s3, r3⟩ := g3 x H3 y
       have r3' := r3 ds[i] (by simp [hlt])
       cases h4 : ga ds[i] ρ2 with
       | none => simp [loopD, h4] at q2
       | some ρ4 =>
         refine ⟨Hb, ρ2, ds[i], ρ4, en2.mono s3, r3', h4, fun σ5 H5 en5 => ?_⟩
         cases h5 : F ρ4 with
         | none => simp [loopD, h4, h5] at q2
         | some p =>
           refine ⟨Hb, ρ4, p, en5, h5, ?_⟩
           cases p with
           | nx ρ6 => exact fun σ6 H6 en6 => ⟨ρ6, en6, by simpa [loopD, h4, h5] using q2⟩
           | ct ρ6 => exact fun σ6 H6 en6 => ⟨ρ6, en6, by simpa [loopD, h4, h5] using q2⟩
           | bk ρ6 =>
             have : Out.nx ρ6 = o := by simpa [loopD, h4, h5] using q2
             subst this
             exact fun σ6 H6 en6 => k σ6 H6 (back _ _ _ en6)
           | rt d =>
             have : Out.rt d = o := by simpa [loopD, h4, h5] using q2
             subst this
             exact fun v H6 s6 r6 => k v H6 (sb _ s6) r6
     · left
       have he : i = ds.length := by omega
       have hn : ds.drop i = [] := by rw [he]; simp
       rw [hn] at q2
       have : Out.nx ρ2 = o := by simpa [loopD] using q2
       subst this
       exact ⟨g2 (by omega), k σ2 H2 (back _ _ _ en2)⟩
end
end BX

end
section
set_option Elab.async false
set_option linter.all false
set_option maxRecDepth 100000
set_option maxHeartbeats 4000000
namespace BX
open PySem PySem.Spec L2
open PyProof.Rows hiding St
theorem upd_upd {H : Hp} {a : Addr} {o o' : HO} : upd (upd H a o) a o' = upd H a o' := by
  funext b
  by_cases h : b = a
  · subst h; rw [upd_same, upd_same]
  · rw [upd_ne h, upd_ne h, upd_ne h]
section
variable {P : Program} {w : World} {K : PySem.W.Frag} {Hs H : Hp} {ρ : Rho} {σ : St} {i : Nat}
theorem EnvO.put {a : Addr} {d d' : PyData} {φ : Heap → Prop} {H3 : Hp} {c : HO} (E : EnvO P w K Hs H (some i) ρ σ) (h0 : ρ[i]? = some (some d)) (h2 : σ[i]? = some (some (.ref a))) (h3 : Hs a = none) (h5 : H a = some (.ext φ))
    (s3 : ∀ b u, b ≠ a → H b = some u → H3 b = some u) (ow : OwnAt P w K (upd H3 a c) a d') : EnvO P w K Hs (upd H3 a c) (some i) (ρ.set i (some d')) σ := by
  have hi : i < ρ.length := (List.getElem?_eq_some_iff.mp h0).1
  have s4 : SameE H (upd H3 a c) := fun b u q m => by
    have : b ≠ a := fun z => by subst z; rw [h5] at q; cases q; exact m _ rfl
    rw [upd_ne this]; exact s3 b u this q
  refine ⟨by simp [E.len], fun b u q => ?_, fun j x q n => ?_, fun j n => ?_⟩
  · have : b ≠ a := fun z => by subst z; rw [h3] at q; cases q
    rw [upd_ne this]; exact s3 b u this (E.sm b u q)
  · have hj : i ≠ j := fun z => n (by rw [z])
    rw [List.getElem?_set_ne hj] at q
    obtain ⟨v, g1, g2⟩ := E.pl j x q n
    exact ⟨v, g1, Rep.monoE s4 _ _ g2⟩
  · cases n
    exact ⟨d', a, by rw [List.getElem?_set_self hi], h2, h3, ow⟩
theorem EnvO.opnL {ds : List PyData} (E : EnvO P w K Hs H (some i) ρ σ) (h : ρ[i]? = some (some (.list ds))) : ∃ a xs, σ[i]? = some (some (.ref a)) ∧ Hs a = none ∧ H a = some (sealL a xs) ∧ Reps K H ds xs ∧ EnvR K (upd H a (.lst xs)) ρ σ := by
  obtain ⟨d, a, h1, h2, h3, h4⟩ := E.ow i rfl
  rw [h] at h1; cases h1
  obtain ⟨xs, h5, h6⟩ := h4
  have s1 : SameE H (upd H a (.lst xs)) := SameE.upd h5
  refine ⟨a, xs, h2, h3, h5, h6, E.len, fun j x q => ?_⟩
  by_cases hj : i = j
  · subst hj
    rw [h] at q; cases q
    exact ⟨.ref a, h2, a, xs, rfl, upd_same, Reps.monoE s1 _ _ h6⟩
  · obtain ⟨v, g1, g2⟩ := E.pl j x q (fun z => hj (Option.some.inj z))
    exact ⟨v, g1, Rep.monoE s1 _ _ g2⟩
end
section
variable {X : Cx} {e a b c tg src : Expr} {es : List Expr} {st : Stmt} {sts rest body : List Stmt} {fa fb fc : Rho → Option PyData} {F G : Rho → Option Out} {pos : Pos}
noncomputable def tMut (P : Program) (w : World) (K : PySem.W.Frag) (i : Nat) (g : Rho → Option PyData) : TE := fun σ H Q => ∃ Hs ρ d', EnvO P w K Hs H (some i) ρ σ ∧ g ρ = some d' ∧ ∀ H', EnvO P w K Hs H' (some i) (ρ.set i (some d')) σ → Q .non H'
noncomputable def mutS (i : Nat) (g : Rho → Option PyData) : Rho → Option Out := fun ρ => (g ρ).map fun d => .nx (ρ.set i (some d))
theorem pso_mut {i : Nat} {g : Rho → Option PyData} (h : PE X e (tMut X.prog X.w X.K i g)) (hs : swapsWith e none pos.line X.env = pure false := by rfl) : PSO X (some i) (.Expr e pos) (mutS i g) := by
  with_unfolding_all
   refine PS.imp (ps_expr h hs) fun D σ H ⟨Hs, ρ, o, E, q, k⟩ => ?_
   cases h1 : g ρ with
   | none => simp [mutS, h1] at q
   | some d =>
     have : Out.nx (ρ.set i (some d)) = o := by simpa [mutS, h1] using q
     subst this
     exact ⟨Hs, ρ, d, E, h1, fun H' E' => k σ H' E'⟩
noncomputable def appL (c d : Option PyData) : Option PyData := match c, d with
  | some (.list ds), some d => if noL d = true ∧ ds.length < 1000000 then some (.list (ds ++ [d])) else none
  | _, _ => none
noncomputable def appD (i : Nat) (fa : Rho → Option PyData) : Rho → Option PyData := fun ρ => appL (lkp i ρ) (fa ρ)
theorem appL_out {c d : Option PyData} {r : PyData} (h : appL c d = some r) : ∃ ds x, c = some (.list ds) ∧ d = some x ∧ noL x = true ∧ ds.length < 1000000 ∧ r = .list (ds ++ [x]) := by
  unfold appL at h
  split at h
  · split at h
    · rename_i hc
      cases h
      exact ⟨_, _, rfl, rfl, hc.1, hc.2, rfl⟩
    · cases h
  · cases h
theorem small_line {n : Nat} (h : n < 1000000) : n < sizeLine := Nat.lt_of_lt_of_le h (by rw [sizeLine_eq]; decide)
theorem pe_append (i : Nat) {x : Str} {p1 apos cpos : Pos} (h : PD X e fa) (hN : X.N[i]? = some x := by rfl) (hv : Vis X.env.scope x := by first | exact Or.inl rfl | exact Or.inr (Or.inl rfl) | exact Or.inr (Or.inr rfl)) (hd : (x == ("__debug__" : Str)) = false := by decide)
    (hcd : (x == ("__classdict__" : Str)) = false := by decide) (hbase : attributeBase (.Name x p1) "append" X.env (eval (.Name x p1) X.env) = eval (.Name x p1) X.env := by rfl)
    (hfew : ((backTo cpos (starEach [e] X.env)).all (fun x => !x.1) && (backToKw cpos (keywordEach [] X.env)).all (fun x => x.1.isSome) && decide ([e].length + ([] : List Keyword).length + (if ([] : List Keyword).isEmpty then 0 else 1) < 30)) = true := by rfl)
    (hline : (apos.endLine == cpos.line) = true := by rfl) (hs : starEach [e] X.env = (false, eval e X.env) :: starEach [] X.env := by rfl) (hplain : (backTo cpos (starEach [] X.env)).any (·.1) = false := by rfl) :
    PE X (.Call (.Attribute (.Name x p1) "append" apos) [e] [] cpos) (tMut X.prog X.w X.K i (appD i fa)) := by
  with_unfolding_all
   intro pins s σ H Q I ⟨Hs, ρ, d', E, hg, k⟩
   obtain ⟨ds, d, q1, q2, hn, hl, rfl⟩ := appL_out hg
   obtain ⟨a, xs, g2, g3, g4, g5, env⟩ := E.opnL (lkp_some q1)
   have hlen := g5.length
   have W := pe_bm (X := X) (cpos := cpos) (apos := apos) PySem.F.plainAttrs_list PySem.F.slot_list_append PySem.F.type_list_append mt_append (pe_var hN hv hd hcd) (pa_cons h pa_nil hs) hbase hfew hline hs hplain
   refine thn (W pins s σ (upd H a (.lst xs)) (fun v H4 => ∃ H3 y, v = .non ∧ H4 = upd H3 a (.lst (xs ++ [y])) ∧ Same (upd H a (.lst xs)) H3 ∧ Rep X.K H3 d y) (Inv.opened I (.l xs) g4)
     ⟨.ref a, g2, .inl ⟨rfl, _, SqL.of upd_same⟩, ρ, d, env, q2, fun y H3 s3 r3 => ⟨a, xs, y, rfl, rfl, s3 _ _ upd_same, by rw [hlen]; exact small_line hl, H3, y, rfl, rfl, s3, r3⟩⟩) fun u s1 ⟨v, H4, I4, r, H3, y, e1, e2, s3, r3⟩ => ?_
   subst e1
   have e4 : H4 a = some (.lst (xs ++ [y])) := by rw [e2]; exact upd_same
   have sb : ∀ b u, b ≠ a → H b = some u → H4 b = some u := fun b u n q => by rw [e2, upd_ne n]; exact s3 b u (by rw [upd_ne n]; exact q)
   refine ⟨.non, upd H4 a (sealL a (xs ++ [y])), Inv.closed I4 (.l _) e4 (Inv.nofrz I g4), r, k _ (E.put (lkp_some q1) g2 g3 g4 sb ⟨xs ++ [y], upd_same, ?_⟩)⟩
   have s5 : SameE H (upd H4 a (sealL a (xs ++ [y]))) := fun b u q m => by
     have : b ≠ a := fun z => by subst z; rw [g4] at q; cases q; exact m _ rfl
     rw [upd_ne this]; exact sb b u this q
   have s6 : SameN H3 (upd H4 a (sealL a (xs ++ [y]))) := fun b u q m => by
     have e3 : H3 a = some (.lst xs) := s3 _ _ upd_same
     have : b ≠ a := fun z => by subst z; rw [e3] at q; cases q; exact m _ rfl
     rw [upd_ne this, e2, upd_ne this]; exact q
   exact (Reps.monoE s5 _ _ g5).append ⟨y, [], rfl, Rep.monoN s6 _ _ hn r3, rfl⟩
end
end BX

end
section
set_option Elab.async false
set_option linter.all false
set_option maxRecDepth 100000
set_option maxHeartbeats 4000000
namespace BX
open PySem PySem.Spec L2
open PyProof.Rows hiding St
section
variable {X : Cx} {e a b c tg src : Expr} {es : List Expr} {st : Stmt} {sts rest body : List Stmt} {fa fb fc : Rho → Option PyData} {F G : Rho → Option Out} {pos : Pos}
@[irreducible] noncomputable def PN (X : Cx) (e : Expr) (f : Rho → Option PyData) : Prop :=
  PE X e fun σ H Q => ∃ ρ d, EnvR X.K H ρ σ ∧ f ρ = some d ∧ ∀ a H', Same H H' → H a = none → OwnAt X.prog X.w X.K H' a d → Q (.ref a) H'
theorem pn_lst {fr : Rho → Option (List PyData)} (h : PAD X es fr) : PN X (.List es pos) (lstD fr) := by
  with_unfolding_all
   intro pins s σ H Q I ⟨ρ, d, en, hf, k⟩
   cases h1 : fr ρ with
   | none => simp [lstD, h1] at hf
   | some ds =>
     by_cases hfew : few ds = true
     · have : PyData.list ds = d := by simpa [lstD, h1, hfew] using hf
       subst this
       refine thn (pe_lst h pins s σ H (fun v H2 => ∃ a xs H1, v = .ref a ∧ H1 a = none ∧ Same H H1 ∧ H2 = upd H1 a (.lst xs) ∧ Reps X.K H1 ds xs) I ⟨ρ, ds, en, h1, fun vs H1 s1 r1 => ⟨by rw [r1.length]; exact few_le (by simpa [few] using hfew), fun l hl => ⟨l, vs, H1, rfl, hl, s1, rfl, r1⟩⟩⟩) fun u s1 ⟨v, H2, I2, r, a, xs, H1, e1, e2, s1', e3, r1⟩ => ?_
       subst e1
       have e4 : H2 a = some (.lst xs) := by rw [e3]; exact upd_same
       have e5 : upd H2 a (sealL a xs) = upd H1 a (sealL a xs) := by rw [e3, upd_upd]
       have s2 : Same H1 (upd H2 a (sealL a xs)) := by rw [e5]; exact same_upd e2
       exact ⟨.ref a, _, Inv.closed I2 (.l xs) e4 (fun ob u z => by have := I.base.frzs _ _ _ z; rw [s1'.free e2] at this; cases this), r, k a _ (s1'.trans s2) (s1'.free e2) ⟨xs, upd_same, Reps.mono s2 _ _ r1⟩⟩
     · simp [lstD, h1, hfew] at hf
noncomputable def newS (i : Nat) (f : Rho → Option PyData) (G : Rho → Option Out) : Rho → Option Out := fun ρ => (f ρ).bind fun d => if i < ρ.length then (G (ρ.set i (some d))).bind fun o => match o with
    | .rt c => some (.rt c)
    | _ => none
  else none
theorem psso_new (i : Nat) {x : Str} {pos' : Pos} (hN : X.N.Nodup) (he : PN X e fa) (h : PSsO X (some i) rest G) (hi : X.N[i]? = some x := by rfl) (hx : Loc X.env.scope x := by first | exact Or.inl rfl | exact Or.inr rfl) (hs : swapsWith e (some (.Name x pos')) pos.line X.env = pure false := by rfl)
    (hf : X.fn x = true ∨ X.env.scope.names.lookup x = some .local := by first | exact .inl rfl | exact .inr rfl | assumption) : PSsO X none (.Assign [.Name x pos'] e pos :: rest) (newS i fa G) := by
  with_unfolding_all
   refine PSs.imp (pss_cons (ps_set hN hi hx he hs hf) h) fun D σ H ⟨Hs, ρ, o, E, q, k⟩ => ?_
   cases h1 : fa ρ with
   | none => simp [newS, h1] at q
   | some d =>
     by_cases hl : i < ρ.length
     · cases h2 : G (ρ.set i (some d)) with
       | none => simp [newS, h1, h2] at q
       | some p =>
         cases p with
         | rt c =>
           have : Out.rt c = o := by simpa [newS, h1, h2, hl] using q
           subst this
           refine ⟨ρ, d, E.to, h1, fun a H' s hn ow => ⟨Hs, ρ.set i (some d), .rt c, ⟨by simp [E.len], E.sm.trans s, fun j y q n => ?_, fun j n => ?_⟩, h2, k⟩⟩
           · have hj : i ≠ j := fun z => n (by rw [z])
             rw [List.getElem?_set_ne hj] at q ⊢
             obtain ⟨v, g1, g2⟩ := E.pl j y q (fun z => nomatch z)
             exact ⟨v, g1, Rep.mono s _ _ g2⟩
           · cases n
             refine ⟨d, a, by rw [List.getElem?_set_self hl], by rw [List.getElem?_set_self (by rw [← E.len]; exact hl)], E.sm.free hn, ow⟩
         | nx _ => simp [newS, h1, h2, hl] at q
         | bk _ => simp [newS, h1, h2, hl] at q
         | ct _ => simp [newS, h1, h2, hl] at q
     · simp [newS, h1, hl] at q

noncomputable def isI (n : Int) : PyData → Bool
  | .int m => decide (m = n)
  | _ => false
noncomputable def putM (r : List (PyData × PyData)) (n : Int) (d : PyData) : List (PyData × PyData) := if r.any (fun p => isI n p.1) = true then r.map (fun p => if isI n p.1 = true then (p.1, d) else p) else r ++ [(.int n, d)]
theorem RepM.any {K : PySem.W.Frag} {H : Hp} (n : Int) : ∀ {r : List (PyData × PyData)} {ks : List (Key × V)}, RepM K H r ks → r.any (fun p => isI n p.1) = ks.any fun kv => decide (kv.1 = (Sum.inl n : Key))
  | [], ks, h => by cases (show ks = [] from h); rfl
  | (k, d) :: r, ks, ⟨i, x, s, h1, h2, h3, h4⟩ => by
    subst h1; subst h2
    rw [List.any_cons, List.any_cons, RepM.any n h4]
    congr 1
    by_cases hn : i = n
    · subst hn; simp [isI]
    · have : ¬ (Sum.inl i : Key) = Sum.inl n := fun z => hn (Sum.inl.inj z)
      simp [isI, hn]
theorem RepM.repl {K : PySem.W.Frag} {H : Hp} (n : Int) {d' : PyData} {x' : V} (hr : Rep K H d' x') : ∀ {r : List (PyData × PyData)} {ks : List (Key × V)}, RepM K H r ks →
    RepM K H (r.map fun p => if isI n p.1 = true then (p.1, d') else p) (ks.map fun kv => if kv.1 = (Sum.inl n : Key) then (kv.1, x') else kv)
  | [], ks, h => by cases (show ks = [] from h); exact rfl
  | (k, d) :: r, ks, ⟨i, x, s, h1, h2, h3, h4⟩ => by
    subst h1; subst h2
    by_cases hn : i = n
    · subst hn
      have c1 : isI i ((PyData.int i, d) : PyData × PyData).1 = true := by simp [isI]
      rw [List.map_cons, List.map_cons, if_pos c1, if_pos rfl]
      exact ⟨i, x', _, rfl, rfl, hr, RepM.repl i hr h4⟩
    · have c1 : ¬ isI n ((PyData.int i, d) : PyData × PyData).1 = true := by simp [isI, hn]
      have c2 : ¬ ((Sum.inl i, x) : Key × V).1 = Sum.inl n := fun z => hn (Sum.inl.inj z)
      rw [List.map_cons, List.map_cons, if_neg c1, if_neg c2]
      exact ⟨i, x, _, rfl, rfl, h3, RepM.repl n hr h4⟩
theorem RepM.snoc {K : PySem.W.Frag} {H : Hp} (n : Int) {d' : PyData} {x' : V} (hr : Rep K H d' x') : ∀ {r : List (PyData × PyData)} {ks : List (Key × V)}, RepM K H r ks → RepM K H (r ++ [(.int n, d')]) (ks ++ [(Sum.inl n, x')])
  | [], ks, h => by cases (show ks = [] from h); exact ⟨n, x', [], rfl, rfl, hr, rfl⟩
  | (k, d) :: r, ks, ⟨i, x, s, h1, h2, h3, h4⟩ => by
    subst h2
    exact ⟨i, x, _, h1, rfl, h3, RepM.snoc n hr h4⟩
theorem RepM.put {K : PySem.W.Frag} {H : Hp} (n : Int) {d' : PyData} {x' : V} (hr : Rep K H d' x') {r : List (PyData × PyData)} {ks : List (Key × V)} (h : RepM K H r ks) : RepM K H (putM r n d') (putK ks (Sum.inl n) x') := by
  unfold putM putK
  rw [h.any n]
  by_cases c : (ks.any fun kv => decide (kv.1 = (Sum.inl n : Key))) = true
  · rw [if_pos c, if_pos c]; exact h.repl n hr
  · rw [if_neg c, if_neg c]; exact h.snoc n hr
theorem RepM.length {K : PySem.W.Frag} {H : Hp} : ∀ {r : List (PyData × PyData)} {ks : List (Key × V)}, RepM K H r ks → ks.length = r.length
  | [], ks, h => by cases (show ks = [] from h); rfl
  | (k, d) :: r, ks, ⟨i, x, s, h1, h2, h3, h4⟩ => by subst h2; simp [RepM.length h4]

end
end BX

end
section
set_option Elab.async false
set_option linter.all false
set_option maxRecDepth 100000
set_option maxHeartbeats 4000000
namespace BX
open PySem PySem.Spec L2
open PyProof.Rows hiding St
section
variable {X : Cx} {e a b c tg src : Expr} {es : List Expr} {fa fb fc : Rho → Option PyData} {pos : Pos}

end
end BX

end
section
set_option Elab.async false
set_option linter.all false
set_option maxRecDepth 100000
set_option maxHeartbeats 4000000
namespace BX
open PySem PySem.Spec L2
open PyProof.Rows hiding St
noncomputable def isDat : HO → Bool
  | .lst _ => true
  | .tup _ => true
  | .frz _ _ => true
  | _ => false
noncomputable def SameA (H H' : Hp) : Prop := ∀ b o, H b = some o → isDat o = true → H' b = some o
section
variable {K : PySem.W.Frag} {H H' : Hp}
theorem SameA.tup {a : Addr} {xs : List V} (e : SameA H H') (h : SqT K H a xs) : SqT K H' a xs := by
  rcases h with (h | ⟨o, h⟩) | h
  · exact .inl (.inl (e _ _ h rfl))
  · exact .inl (.inr ⟨o, e _ _ h rfl⟩)
  · exact .inr h
theorem SameA.sql {a : Addr} {xs : List V} (e : SameA H H') (h : SqL K H a xs) : SqL K H' a xs := by
  rcases h with (h | ⟨o, h⟩) | h
  · exact .inl (.inl (e _ _ h rfl))
  · exact .inl (.inr ⟨o, e _ _ h rfl⟩)
  · exact .inr h
end
section
variable {X : Cx} {e a b c tg src : Expr} {es : List Expr} {fa fb fc : Rho → Option PyData} {pos : Pos}
theorem RepM.keys {K : PySem.W.Frag} {H : Hp} : ∀ {r : List (PyData × PyData)} {ks : List (Key × V)} {i : Nat} {d : PyData} {kv : Key × V}, RepM K H r ks → (r.map (·.1))[i]? = some d → ks[i]? = some kv → Rep K H d (kV kv.1)
  | [], ks, i, d, kv, h, e, q => by simp at e
  | (k, c) :: r, ks, 0, d, kv, ⟨i, x, s, h1, h2, h3, h4⟩, e, q => by
    subst h1; subst h2
    simp at e q
    subst e; subst q
    exact rfl
  | (k, c) :: r, ks, j + 1, d, kv, ⟨i, x, s, h1, h2, h3, h4⟩, e, q => by
    subst h2
    exact RepM.keys (i := j) h4 (by simpa using e) (by simpa using q)
end
end BX

end
section
set_option Elab.async false
set_option linter.all false
set_option maxRecDepth 100000
set_option maxHeartbeats 4000000
namespace BX
open PySem PySem.Spec L2
section
open PyProof.Rows hiding St
variable {X : Cx} {e a b c tg src : Expr} {es : List Expr} {fa fb fc : Rho → Option PyData} {pos : Pos} {rest : List Expr}
end
end BX

end
section
set_option Elab.async false
set_option linter.all false
set_option maxRecDepth 100000
set_option maxHeartbeats 4000000
namespace BX
open PySem PySem.Spec L2
open PyProof.Rows hiding St
section
variable {X : Cx} {e a b c tg src : Expr} {es : List Expr} {fa fb fc : Rho → Option PyData} {pos : Pos} {rest : List Expr}


noncomputable def andV (fa fb : Rho → Option PyData) : Rho → Option PyData := fun ρ => (fa ρ).bind fun x => (asB x).bind fun t => if t = true then fb ρ else some (.bool false)
theorem pd_one {op : BoolOp} (ha : PD X a fa) : PD X (.BoolOp op [a] pos) fa := by
  with_unfolding_all exact (pe_one ha)
theorem pd_and (ha : PD X a fa) (hb : PD X (.BoolOp .And (b :: rest) pos) fb) : PD X (.BoolOp .And (a :: b :: rest) pos) (andV fa fb) := by
  with_unfolding_all
   refine PE.imp (pe_and ha hb) fun σ H Q ⟨ρ, d, en, h, k⟩ => ?_
   cases h1 : fa ρ with
   | none => simp [andV, h1] at h
   | some x =>
     cases h2 : asB x with
     | none => simp [andV, h1, h2] at h
     | some t =>
       have hx := asB_some h2
       subst hx
       refine ⟨ρ, _, en, h1, fun v H1 s1 r1 => ⟨t, r1, ?_⟩⟩
       cases t with
       | true => rw [if_pos rfl]; exact ⟨ρ, d, en.mono s1, by simpa [andV, h1, h2] using h, fun v H2 s2 r2 => k v H2 (s1.trans s2) r2⟩
       | false =>
         rw [if_neg Bool.false_ne_true]
         have : PyData.bool false = d := by simpa [andV, h1, h2] using h
         subst this
         exact k _ H1 s1 rfl
noncomputable def isNo : PyData → Bool
  | .none => true
  | _ => false
theorem isNo_rep {K : PySem.W.Frag} {H : Hp} {p : PyData} {x : V} (r : Rep K H p x) : decide (x = .non) = isNo p := by
  cases p with
  | none => cases (show x = .non from r); rfl
  | bool b => cases (show x = _ from r); rfl
  | int b => cases (show x = _ from r); rfl
  | str b => cases (show x = _ from r); rfl
  | tuple ds => obtain ⟨a, xs, h, _⟩ := r; subst h; rfl
  | list ds => obtain ⟨a, xs, h, _⟩ := r; subst h; rfl
  | dict ds => obtain ⟨a, h, _⟩ := r; subst h; rfl
noncomputable def dIsN (p q : PyData) : Option PyData := match q with
  | .none => some (.bool (isNo p))
  | _ => none
noncomputable def dNotN (p q : PyData) : Option PyData := match q with
  | .none => some (.bool (!isNo p))
  | _ => none
theorem opd_isN : OpD X (compareOp .Is) dIsN := by
  refine ⟨_, op_isN, fun p q d x y H Q h rx ry k => ?_⟩
  unfold dIsN at h
  split at h
  · cases h
    exact ⟨ry, by rw [isNo_rep rx]; exact k _ H (Same.refl H) rfl⟩
  · cases h
theorem opd_notN : OpD X (compareOp .IsNot) dNotN := by
  refine ⟨_, op_notN, fun p q d x y H Q h rx ry k => ?_⟩
  unfold dNotN at h
  split at h
  · cases h
    exact ⟨ry, by rw [isNo_rep rx]; exact k _ H (Same.refl H) rfl⟩
  · cases h
end
end BX

end
section
set_option Elab.async false
set_option linter.all false
set_option maxRecDepth 100000
set_option maxHeartbeats 4000000
namespace BX
open PySem PySem.Spec L2
open PyProof.Rows hiding St
section
variable {X : Cx} {e a b c tg src : Expr} {es : List Expr} {fa fb fc : Rho → Option PyData} {pos : Pos}
noncomputable def extL (c d : Option PyData) : Option PyData := match c, d with
  | some (.list ds), some (.list es) => if noLs es = true ∧ ds.length + es.length < 1000000 then some (.list (ds ++ es)) else none
  | _, _ => none
noncomputable def extD (i : Nat) (fa : Rho → Option PyData) : Rho → Option PyData := fun ρ => extL (lkp i ρ) (fa ρ)
theorem extL_out {c d : Option PyData} {r : PyData} (h : extL c d = some r) : ∃ ds es, c = some (.list ds) ∧ d = some (.list es) ∧ noLs es = true ∧ ds.length + es.length < 1000000 ∧ r = .list (ds ++ es) := by
  unfold extL at h
  split at h
  · split at h
    · rename_i hc
      cases h
      exact ⟨_, _, rfl, rfl, hc.1, hc.2, rfl⟩
    · cases h
  · cases h
theorem pe_extend (i : Nat) {x : Str} {p1 apos cpos : Pos} (h : PD X e fa) (hN : X.N[i]? = some x := by rfl) (hv : Vis X.env.scope x := by first | exact Or.inl rfl | exact Or.inr (Or.inl rfl) | exact Or.inr (Or.inr rfl)) (hd : (x == ("__debug__" : Str)) = false := by decide)
    (hcd : (x == ("__classdict__" : Str)) = false := by decide) (hbase : attributeBase (.Name x p1) "extend" X.env (eval (.Name x p1) X.env) = eval (.Name x p1) X.env := by rfl)
    (hfew : ((backTo cpos (starEach [e] X.env)).all (fun x => !x.1) && (backToKw cpos (keywordEach [] X.env)).all (fun x => x.1.isSome) && decide ([e].length + ([] : List Keyword).length + (if ([] : List Keyword).isEmpty then 0 else 1) < 30)) = true := by rfl)
    (hline : (apos.endLine == cpos.line) = true := by rfl) (hs : starEach [e] X.env = (false, eval e X.env) :: starEach [] X.env := by rfl) (hplain : (backTo cpos (starEach [] X.env)).any (·.1) = false := by rfl) :
    PE X (.Call (.Attribute (.Name x p1) "extend" apos) [e] [] cpos) (tMut X.prog X.w X.K i (extD i fa)) := by
  with_unfolding_all
   intro pins s σ H Q I ⟨Hs, ρ, d', E, hg, k⟩
   obtain ⟨ds, es, q1, q2, hn, hl, rfl⟩ := extL_out hg
   obtain ⟨a, xs, g2, g3, g4, g5, env⟩ := E.opnL (lkp_some q1)
   have hlen := g5.length
   have W := pe_bm (X := X) (cpos := cpos) (apos := apos) PySem.F.plainAttrs_list PySem.F.slot_list_extend PySem.F.type_list_extend mt_extend (pe_var hN hv hd hcd) (pa_cons h pa_nil hs) hbase hfew hline hs hplain
   refine thn (W pins s σ (upd H a (.lst xs)) (fun v H4 => ∃ H3 zs, v = .non ∧ H4 = upd H3 a (.lst (xs ++ zs)) ∧ Same (upd H a (.lst xs)) H3 ∧ Reps X.K H3 es zs) (Inv.opened I (.l xs) g4)
     ⟨.ref a, g2, .inl ⟨rfl, _, SqL.of upd_same⟩, ρ, .list es, env, q2, fun y H3 s3 r3 => ?_⟩) fun u s1 ⟨v, H4, I4, r, H3, zs, e1, e2, s3, r3⟩ => ?_
   · obtain ⟨b, zs, z1, z2, z3⟩ := r3
     have hz := z3.length
     exact ⟨a, b, xs, zs, rfl, by rw [z1], s3 _ _ upd_same, z2, by rw [hlen, hz]; exact Nat.le_of_lt (small_line hl), H3, zs, rfl, rfl, s3, z3⟩
   subst e1
   have e4 : H4 a = some (.lst (xs ++ zs)) := by rw [e2]; exact upd_same
   have sb : ∀ b u, b ≠ a → H b = some u → H4 b = some u := fun b u n q => by rw [e2, upd_ne n]; exact s3 b u (by rw [upd_ne n]; exact q)
   refine ⟨.non, upd H4 a (sealL a (xs ++ zs)), Inv.closed I4 (.l _) e4 (Inv.nofrz I g4), r, k _ (E.put (lkp_some q1) g2 g3 g4 sb ⟨xs ++ zs, upd_same, ?_⟩)⟩
   have s5 : SameE H (upd H4 a (sealL a (xs ++ zs))) := fun b u q m => by
     have : b ≠ a := fun z => by subst z; rw [g4] at q; cases q; exact m _ rfl
     rw [upd_ne this]; exact sb b u this q
   have s6 : SameN H3 (upd H4 a (sealL a (xs ++ zs))) := fun b u q m => by
     have e3 : H3 a = some (.lst xs) := s3 _ _ upd_same
     have : b ≠ a := fun z => by subst z; rw [e3] at q; cases q; exact m _ rfl
     rw [upd_ne this, e2, upd_ne this]; exact q
   exact (Reps.monoE s5 _ _ g5).append (Reps.monoN s6 _ _ hn r3)
end
end BX

end
section
set_option Elab.async false
set_option linter.all false
set_option maxRecDepth 100000
set_option maxHeartbeats 4000000
namespace BX
open PySem PySem.Spec L2
open PyProof.Rows hiding St
section
variable {X : Cx} {e a b c tg src : Expr} {es : List Expr} {fa fb fc : Rho → Option PyData} {pos : Pos}
noncomputable def rOwnL : V → V → V → Hp → (Hp → Prop) → Prop := fun o k v H Q => ∃ a xs n j, o = .ref a ∧ k = .int n ∧ H a = some (sealL a xs) ∧ ixN xs.length n = some j ∧ Q (upd H a (sealL a (xs.set j v)))
theorem set_ownL : PSet X rOwnL := by
  intro pins s σ H o k v ov iv u Q I ro rk rv ⟨a, xs, n, j, e1, e2, h1, h2, q⟩
  subst e1; subst e2
  refine thn (set_list pins s σ (upd H a (.lst xs)) (.ref a) (.int n) v ov iv u (fun H' => H' = upd (upd H a (.lst xs)) a (.lst (xs.set j v))) (Inv.opened I (.l xs) h1) ro rk rv ⟨a, xs, n, j, rfl, rfl, upd_same, h2, rfl⟩) fun _ s1 ⟨H', I', e⟩ => ?_
  subst e
  have I2 := Inv.closed I' (.l (xs.set j v)) upd_same (Inv.nofrz I h1)
  rw [upd_upd, upd_upd] at I2
  exact ⟨_, I2, q⟩
noncomputable def setD (c v k : Option PyData) : Option PyData := match c, v, k with
  | some (.list ds), some d, some (.int n) => (ixN ds.length n).map fun j => .list (ds.set j d)
  | _, _, _ => none
theorem setD_out {c v k : Option PyData} {o : PyData} (h : setD c v k = some o) : ∃ ds d n j, c = some (.list ds) ∧ v = some d ∧ k = some (.int n) ∧ ixN ds.length n = some j ∧ o = .list (ds.set j d) := by
  unfold setD at h
  split at h
  · rename_i ds d n
    cases q : ixN ds.length n with
    | none => rw [q] at h; cases h
    | some j => rw [q] at h; cases h; exact ⟨_, _, _, _, rfl, rfl, rfl, q, rfl⟩
  · cases h
theorem Reps.set {K : PySem.W.Frag} {H : Hp} {d : PyData} {v : V} (r : Rep K H d v) : ∀ {ds : List PyData} {xs : List V} (j : Nat), Reps K H ds xs → Reps K H (ds.set j d) (xs.set j v)
  | [], xs, j, h => by cases (show xs = [] from h); exact rfl
  | _ :: ds, xs, 0, ⟨x, q, h1, h2, h3⟩ => by subst h1; exact ⟨v, q, rfl, r, h3⟩
  | _ :: ds, xs, j + 1, ⟨x, q, h1, h2, h3⟩ => by subst h1; exact ⟨x, _, rfl, h2, Reps.set r j h3⟩
noncomputable def setS (i : Nat) (fk fv : Rho → Option PyData) : Rho → Option Out := fun ρ => (setD (lkp i ρ) (brw (some i) fv ρ) (brw (some i) fk ρ)).map fun d => .nx (ρ.set i (some d))
theorem pso_setL (i : Nat) {x : Str} {p1 p2 : Pos} {fk fv : Rho → Option PyData} (hk : PD X b fk) (he : PD X e fv) (hN : X.N[i]? = some x := by rfl) (hv : Vis X.env.scope x := by first | exact Or.inl rfl | exact Or.inr (Or.inl rfl) | exact Or.inr (Or.inr rfl))
    (hd : (x == ("__debug__" : Str)) = false := by decide) (hcd : (x == ("__classdict__" : Str)) = false := by decide)
    (ha : ∀ v, assign (.Subscript (.Name x p1) b p2) X.env v = (do
      let ov ← holding [v] (eval (.Name x p1) X.env)
      let iv ← holding [v, ov] (eval b X.env)
      standAt p2
      holding [v, ov, iv] (setItem ov iv v)
      release [v, ov, iv] []) := by intro _; rfl)
    (hs : swapsWithSole [.Subscript (.Name x p1) b p2] e pos.line X.env = pure false := by rfl) (hw : swappedStores [.Subscript (.Name x p1) b p2] e X.env = pure none := by rfl)
    (h1 : (assignEach [.Subscript (.Name x p1) b p2] X.env).map (·.2) = [assign (.Subscript (.Name x p1) b p2) X.env] := by rfl) : PSO X (some i) (.Assign [.Subscript (.Name x p1) b p2] e pos) (setS i fk fv) := by
  with_unfolding_all
   refine PS.imp (ps_asg (pe_brw (own := some i) he) (pg_sub (pe_var hN hv hd hcd) (pe_brw (own := some i) hk) set_ownL ha) hs hw h1) fun D σ H ⟨Hs, ρ, o, E, q, k⟩ => ?_
   cases hp : setD (lkp i ρ) (brw (some i) fv ρ) (brw (some i) fk ρ) with
   | none => simp [setS, hp] at q
   | some nw =>
     have : Out.nx (ρ.set i (some nw)) = o := by simpa [setS, hp] using q
     subst this
     obtain ⟨ds, d, n, j, q1, q2, q3, hl, rfl⟩ := setD_out hp
     refine ⟨Hs, ρ, d, E, q2, fun v H1 s1 E1 r1 => ?_⟩
     obtain ⟨d0, a, g1, g2, g3, g4⟩ := E1.ow i rfl
     rw [lkp_some q1] at g1; cases g1
     refine ⟨.ref a, g2, Hs, ρ, .int n, E1, q3, fun kv H2 s2 E2 r2 => ?_⟩
     cases (show kv = V.int n from r2)
     obtain ⟨d1, a1, f1, f2, f3, f4⟩ := E2.ow i rfl
     rw [lkp_some q1] at f1; cases f1
     rw [g2] at f2; cases f2
     obtain ⟨xs, e2, e3⟩ := f4
     refine ⟨a, xs, n, j, rfl, rfl, e2, by rw [e3.length]; exact hl, k _ _ (E2.put (lkp_some q1) g2 f3 e2 (fun _ _ _ z => z) ⟨_, upd_same, ?_⟩)⟩
     have s5 : SameE H2 (upd H2 a (sealL a (xs.set j v))) := SameE.upd e2
     exact Reps.set (Rep.monoE (s2.trans s5) _ _ r1) j (Reps.monoE s5 _ _ e3)
noncomputable def dListOf (ds : List PyData) : Option PyData := match ds with
  | [.list xs] => some (.list xs)
  | [.tuple xs] => some (.list xs)
  | _ => none
noncomputable def dTupOf (ds : List PyData) : Option PyData := match ds with
  | [.list xs] => some (.tuple xs)
  | [.tuple xs] => some (.tuple xs)
  | _ => none
theorem cd_tupOf : CallD X (.type "tuple") dTupOf := by
  refine ⟨_, call_tuple_of, fun ds d xs H Q h r k => ?_⟩
  unfold dTupOf at h
  split at h
  · cases h
    obtain ⟨x, q, e1, e2, e3⟩ := r
    cases (show q = [] from e3)
    obtain ⟨a, us, g1, g2, g3⟩ := e2
    subst g1
    refine ⟨a, us, e1, .inl ⟨SqL.of g2, fun l hl => ?_⟩⟩
    have s1 := same_upd (o := .tup us) hl
    exact k _ _ s1 ⟨l, us, rfl, SqT.of upd_same, Reps.mono s1 _ _ g3⟩
  · cases h
    obtain ⟨x, q, e1, e2, e3⟩ := r
    cases (show q = [] from e3)
    obtain ⟨a, us, g1, g2, g3⟩ := e2
    subst g1
    exact ⟨a, us, e1, .inr ⟨g2, k _ H (Same.refl H) ⟨a, us, rfl, g2, g3⟩⟩⟩
  · cases h
theorem pn_listOf {p : Pos} {fr : Rho → Option (List PyData)} (hm : X.mg "list" = none) (hv : bootBuiltins "list" = some (.type "list")) (ha : PAD X [e] fr) (hg : Gl X "list" := by rfl)
    (he : starEach [e] X.env = (false, eval e X.env) :: starEach [] X.env := by rfl) (hpl : (backTo pos (starEach [] X.env)).any (·.1) = false := by rfl) : PN X (.Call (.Name "list" p) [e] [] pos) (calD dListOf fr) := by
  with_unfolding_all
   intro pins s σ H Q I ⟨ρ, d, en, hf, k⟩
   cases h1 : fr ρ with
   | none => simp [calD, h1] at hf
   | some as =>
     have q' : dListOf as = some d := by simpa [calD, h1] using hf
     have W := pe_callTy (X := X) (pos := pos) (p := p) call_list_of hg hm hv ha (by decide) (by decide) he hpl
     refine thn (W pins s σ H (fun v H2 => ∃ a ys H1 ds, v = .ref a ∧ H1 a = none ∧ Same H H1 ∧ H2 = upd H1 a (.lst ys) ∧ d = .list ds ∧ Reps X.K H1 ds ys) I ⟨ρ, as, en, h1, fun vs H1 s1 r1 => ?_⟩) fun u s1 ⟨v, H2, I2, r, a, ys, H1, ds, e1, e2, s1', e3, e0, r1⟩ => ?_
     · unfold dListOf at q'
       split at q'
       · cases q'
         obtain ⟨x, q, z1, z2, z3⟩ := r1
         cases (show q = [] from z3)
         obtain ⟨a, us, g1, g2, g3⟩ := z2
         subst g1
         exact ⟨a, us, z1, .inl (SqL.of g2), fun l hl => ⟨l, us, H1, _, rfl, hl, s1, rfl, rfl, g3⟩⟩
       · cases q'
         obtain ⟨x, q, z1, z2, z3⟩ := r1
         cases (show q = [] from z3)
         obtain ⟨a, us, g1, g2, g3⟩ := z2
         subst g1
         exact ⟨a, us, z1, .inr g2, fun l hl => ⟨l, us, H1, _, rfl, hl, s1, rfl, rfl, g3⟩⟩
       · cases q'
     · subst e1; subst e0
       have e4 : H2 a = some (.lst ys) := by rw [e3]; exact upd_same
       have e5 : upd H2 a (sealL a ys) = upd H1 a (sealL a ys) := by rw [e3, upd_upd]
       have s2 : Same H1 (upd H2 a (sealL a ys)) := by rw [e5]; exact same_upd e2
       exact ⟨.ref a, _, Inv.closed I2 (.l ys) e4 (fun ob u z => by have := I.base.frzs _ _ _ z; rw [s1'.free e2] at this; cases this), r, k a _ (s1'.trans s2) (s1'.free e2) ⟨ys, upd_same, Reps.mono s2 _ _ r1⟩⟩
end
end BX

end
section
set_option Elab.async false
set_option linter.all false
set_option maxRecDepth 100000
set_option maxHeartbeats 4000000
namespace BX
open PySem PySem.Spec L2
open PyProof.Rows hiding St
section
variable {X : Cx} {e a b c : Expr} {fa fb fc : Rho → Option PyData} {pos p2 : Pos}
noncomputable def cutT (ds : List PyData) (lo hi : Option Int) : List PyData := (ds.drop (HT.sIx ds.length 0 lo)).take (HT.sIx ds.length ds.length hi - HT.sIx ds.length 0 lo)
noncomputable def inI : PyData → Option Int
  | .int i => some i
  | _ => none
theorem inI_some {d : PyData} {i : Int} (h : inI d = some i) : d = .int i := by cases d <;> simp [inI] at h; rw [h]
end
end BX

end
section
set_option Elab.async false
set_option linter.all false
set_option maxRecDepth 100000
set_option maxHeartbeats 4000000
namespace BX
open PySem PySem.Spec L2
open PyProof.Rows hiding St

section
variable {prog : Program} {w : World} {A : Around} {E : Value → Shared → Prop} {s : Shared}
noncomputable def ItA (g : Bool) (h : Heap) (i t : Addr) (k : Nat) : Prop := match g with
  | true => h.IsListIter i t k
  | false => h.IsTupleIter i t k
noncomputable def SrA (g : Bool) (h : Heap) (t : Addr) (xs : Array Value) : Prop := match g with
  | true => h.IsList t xs
  | false => h.IsTuple t xs
theorem ItA.to {g : Bool} {h h' : Heap} {i t : Addr} {k : Nat} (x : ItA g h i t k) (kp : ∀ o, h.get? i = some o → h'.get? i = some o) : ItA g h' i t k := by
  cases g <;> exact (let ⟨o, e, r⟩ := x; ⟨o, kp o e, r⟩)
theorem SrA.to {g : Bool} {h h' : Heap} {t : Addr} {xs : Array Value} (x : SrA g h t xs) (kp : ∀ o, h.get? t = some o → h'.get? t = some o) : SrA g h' t xs := by
  cases g <;> exact (let ⟨o, e, r⟩ := x; ⟨o, kp o e, r⟩)
theorem ItA.extBut {g : Bool} {h h' : Heap} {i t b : Addr} {k : Nat} (x : ItA g h i t k) (e : Heap.ExtBut b h h') (n : i ≠ b) : ItA g h' i t k := x.to fun o q => e i o n q
theorem SrA.extBut {g : Bool} {h h' : Heap} {t b : Addr} {xs : Array Value} (x : SrA g h t xs) (e : Heap.ExtBut b h h') (n : t ≠ b) : SrA g h' t xs := x.to fun o q => e t o n q
theorem ItA.obj {g : Bool} {h : Heap} {i t : Addr} {k : Nat} (x : ItA g h i t k) : ∃ o vs, h.get? i = some o ∧ o.data = .fields vs := by
  cases g <;> exact (let ⟨o, e, _, d⟩ := x; ⟨o, _, e, d⟩)

structure Apart2 (z TI TO i1 i2 t1 t2 : Addr) : Prop where
  nd : [z, TO, i1, i2].Nodup
  ti : TI ∉ [z, TO, i1, i2]
  s1 : t1 ∉ [z, TO, i1, i2]
  s2 : t2 ∉ [z, TO, i1, i2]
structure Zip2 (ga gb : Bool) (h : Heap) (z TI TO i1 i2 t1 t2 : Addr) (f0 : Value) (k : Nat) : Prop where
  hz : IsZip h z TI TO f0
  hTI : IsPair h TI (.ref i1) (.ref i2)
  hTO : ∃ a b, IsPair h TO a b
  g1 : ItA ga h i1 t1 k
  g2 : ItA gb h i2 t2 k
theorem Zip2.keep {ga gb : Bool} {h h' : Heap} {z TI TO i1 i2 t1 t2 : Addr} {f0 : Value} {k : Nat} (S : Zip2 ga gb h z TI TO i1 i2 t1 t2 f0 k) (kp : ∀ b ∈ [z, TI, TO, i1, i2], ∀ o, h.get? b = some o → h'.get? b = some o) :
    Zip2 ga gb h' z TI TO i1 i2 t1 t2 f0 k := by
  obtain ⟨hz, hTI, ⟨a, b, hTO⟩, g1, g2⟩ := S
  exact ⟨kp z (by simp) _ hz, kp TI (by simp) _ hTI, ⟨a, b, kp TO (by simp) _ hTO⟩, g1.to (kp i1 (by simp)), g2.to (kp i2 (by simp))⟩
end
end BX

end
section
set_option Elab.async false
set_option linter.all false
set_option maxRecDepth 100000
set_option maxHeartbeats 4000000
namespace BX
open PySem PySem.Spec L2
open PyProof.Rows hiding St
noncomputable def Sq (g : Bool) (K : PySem.W.Frag) (H : Hp) (t : Addr) (xs : List V) : Prop := match g with
  | true => SqL K H t xs
  | false => SqT K H t xs
theorem Sq.inj {g : Bool} {X : Cx} {pins : List (Addr × Obj)} {σ : St} {H : Hp} {s : Shared} {a : Addr} {xs ys : List V} (I : Inv X pins σ H s) (q : Sq g X.K H a xs) (q' : Sq g X.K H a ys) : xs = ys := by
  cases g with
  | true => exact I.list_inj q q'
  | false => exact I.tuple_inj q q'
theorem Sq.monoE {g : Bool} {K : PySem.W.Frag} {H H' : Hp} {a : Addr} {xs : List V} (e : SameE H H') (h : Sq g K H a xs) : Sq g K H' a xs := by
  cases g with
  | true => exact SameE.sql e h
  | false => exact SameE.tup e h
theorem Sq.at {g : Bool} {K : PySem.W.Frag} {H : Hp} {a : Addr} {xs : List V} (h : Sq g K H a xs) : (∃ u, H a = some u) ∨ ∃ o, K.lookup a = some o := by
  cases g with
  | true => rcases h with (e | ⟨o, e⟩) | ⟨o, its, n, hk, _⟩ <;> first | exact .inl ⟨_, e⟩ | exact .inr ⟨_, hk⟩
  | false => rcases h with (e | ⟨o, e⟩) | ⟨o, its, n, hk, _⟩ <;> first | exact .inl ⟨_, e⟩ | exact .inr ⟨_, hk⟩
end BX

end
section
set_option Elab.async false
set_option linter.all false
set_option maxRecDepth 100000
set_option maxHeartbeats 4000000
namespace BX
open PySem PySem.Spec L2
open PyProof.Rows hiding St
section
variable {X : Cx}
end
end BX

end
section
set_option Elab.async false
set_option linter.all false
set_option maxRecDepth 100000
set_option maxHeartbeats 4000000
namespace BX
open PySem PySem.Spec L2
open PyProof.Rows hiding St
section
variable {X : Cx} {e a b c : Expr} {fa fb fc : Rho → Option PyData} {pos p2 : Pos}
noncomputable def dSlL (p : PyData) (lo hi : Option Int) : Option PyData := match p with
  | .list ds => some (.list (cutT ds lo hi))
  | _ => none
noncomputable def sllFrom (fa fb : Rho → Option PyData) : Rho → Option PyData := fun ρ => (fa ρ).bind fun p => (fb ρ).bind fun q => (inI q).bind fun i => dSlL p (some i) none
theorem pd_sllFrom (ha : PD X a fa) (hb : PD X b fb) : PD X (.Subscript a (.Slice (some b) none none p2) pos) (sllFrom fa fb) := by
  with_unfolding_all
   refine PE.imp (pe_slice sl_list ha (po_some hb) po_none) fun σ H Q ⟨ρ, d, en, q, k⟩ => ?_
   cases h1 : fa ρ with
   | none => simp [sllFrom, h1] at q
   | some y =>
     cases h2 : fb ρ with
     | none => simp [sllFrom, h1, h2] at q
     | some z =>
       cases h3 : inI z with
       | none => simp [sllFrom, h1, h2, h3] at q
       | some i =>
         have q' : dSlL y (some i) none = some d := by simpa [sllFrom, h1, h2, h3] using q
         have hz := inI_some h3
         subst hz
         refine ⟨ρ, y, en, h1, fun v H1 s1 r1 => ⟨ρ, _, en.mono s1, h2, fun u H2 s2 r2 => ?_⟩⟩
         cases (show u = _ from r2)
         unfold dSlL at q'
         split at q'
         · rename_i ds
           cases q'
           obtain ⟨l, xs, e1, e2, e3⟩ := Rep.mono s2 _ _ r1
           have hl := e3.length
           refine ⟨i, rfl, l, xs, e1, SqL.of e2, fun p hp => ?_⟩
           have s3 := same_upd (o := .lst (cutV xs (some i) none)) hp
           have rr : Reps X.K H2 (cutT ds (some i) none) (cutV xs (some i) none) := by
             unfold cutV cutT
             rw [hl]
             exact (e3.drop _).take _
           exact k _ _ (s1.trans (s2.trans s3)) ⟨p, _, rfl, upd_same, Reps.mono s3 _ _ rr⟩
         · cases q'
noncomputable def dRepL (p q : PyData) : Option PyData := match p, q with
  | .list ds, .int k => if ds.length < 1000 ∧ -1000 < k ∧ k < 1000 then some (.list (List.replicate k.toNat ds).flatten) else none
  | _, _ => none
theorem opd_repL : OpD X (binaryOp .Mult) dRepL := by
  refine ⟨_, op_rep, fun p q d x y H Q h rx ry k => ?_⟩
  unfold dRepL at h
  split at h
  · rename_i ds n
    split at h
    · rename_i hc
      cases h
      obtain ⟨l, us, e1, e2, e3⟩ := rx
      cases (show y = V.int n from ry)
      have hl := e3.length
      refine ⟨l, n, us, e1, rfl, e2, by omega, by omega, ?_, fun p hp => ?_⟩
      · rw [sizeLine_eq]
        have h1 : us.length * n.toNat ≤ 1000 * 1000 := Nat.mul_le_mul (by omega) (by omega)
        exact Nat.le_trans h1 (by decide)
      · have s1 := same_upd (o := .lst (List.replicate n.toNat us).flatten) hp
        exact k _ _ s1 ⟨p, _, rfl, upd_same, Reps.mono s1 _ _ (e3.rep _)⟩
    · cases h
  · cases h
theorem vals_ints : ∀ {is : List Int} {us : List Value}, Vals (is.map V.int) us → ∀ (j : Nat) (i : Int), is[j]? = some i → ∃ t, us[j]? = some (.int i t)
  | [], us, r, j, i, h => by simp at h
  | i0 :: is, u :: us, .cons r rr, j, i, h => by
    cases j with
    | zero => cases h; obtain ⟨t, rfl⟩ := r; exact ⟨t, rfl⟩
    | succ j => exact vals_ints rr j i (by simpa using h)
end
end BX

end
section
set_option Elab.async false
set_option linter.all false
set_option maxRecDepth 100000
set_option maxHeartbeats 4000000
namespace BX
open PySem PySem.Spec L2
open PyProof.Rows hiding St
structure OneCell (sc : Scope) (y0 : Str) (pre post : List (Str × NameKind)) : Prop where
  split : sc.names = pre ++ (y0, .cell) :: post
  pre : ∀ x ∈ pre, x.2 ≠ .cell
  post : ∀ x ∈ post, x.2 ≠ .cell
structure CompOk1 (X : Cx) (sc : Scope) (N' : List Str) (cap : List (Option Nat)) (y0 : Str) : Prop where
  fr : ∀ x ∈ sc.names, x.2 = .free → X.env.kindOf x.1 = some .cell ∨ X.env.kindOf x.1 = some .free
  one : ∃ pre post, OneCell sc y0 pre post
  lk : sc.names.lookup y0 = some .cell
  kind : sc.kind = .function
  nm : ∀ x ∈ sc.names, x.2 = .local → sc.names.lookup x.1 = some .local
  len : cap.length = N'.length
  cp : ∀ (j i : Nat) (x : Str), N'[j]? = some x → cap[j]? = some (some i) → X.N[i]? = some x ∧ sc.names.lookup x = some .free
end BX

end
section
set_option Elab.async false
set_option linter.all false
set_option maxRecDepth 100000
set_option maxHeartbeats 4000000
namespace BX
open PySem PySem.Spec L2
open PyProof.Rows hiding St

section
variable {X : Cx} {e : Expr} {fa : Rho → Option PyData}
end
end BX

end
section
set_option Elab.async false
set_option linter.all false
set_option maxRecDepth 100000
set_option maxHeartbeats 4000000
namespace BX
open PySem PySem.Spec L2
open PyProof.Rows hiding St
theorem ps_comp {X : Cx} {i0 : Nat} {x0 : Str} {pos0 pos1 : Pos} {el tg src : Expr} {ts : List Expr} {sc : Scope} {ps : Pos} {wi : TI} {g : TG} {tt : TT} {te : TE} {N' : List Str} {cap : List (Option Nat)} (hc : X.calm = true) (hi : PI X tg src wi) (ok : CompOk X sc N' cap)
    (body : ∀ cl C s0 H0 fp pn, PG (blk X N' sc cl C s0 H0 fp pn) tg g ∧ PTs (blk X N' sc cl C s0 H0 fp pn) ts tt ∧ PE (blk X N' sc cl C s0 H0 fp pn) el te)
    (hN : X.N.Nodup) (hi0 : X.N[i0]? = some x0) (hx0 : Loc X.env.scope x0) (hsw : swapsWith (.ListComp el [⟨tg, src, ts, 0⟩] sc ps) (some (.Name x0 pos0)) pos1.line X.env = pure true)
    (hf0 : X.fn x0 = true ∨ X.env.scope.names.lookup x0 = some .local)
    (hs : ∀ x, foldedSetIterable src X.env x = pure x := by intro _; rfl) : PS X (.Assign [.Name x0 pos0] (.ListComp el [⟨tg, src, ts, 0⟩] sc ps) pos1) (tAsg (tComp wi cap g tt te) (gName i0)) := by
  intro pins s σ H Dn I h
  have hfr : ∀ x ∈ sc.names, x.2 = .free → ∃ c, X.env.cells.lookup x.1 = some c := fun x hx e => I.ok.has x.1 (ok.fr x hx e)
  have hcl := clos_eq sc X.env hfr
  have clm : ∀ x c, (closL X.env sc.names []).lookup x = some c → X.env.cells.lookup x = some c := fun x c e =>
    closL_mem X.env sc.names [] hfr (fun _ z => nomatch z) (x, c) (PySem.mem_of_lookup e)
  generalize hgl : closL X.env sc.names [] = cl at hcl clm
  rw [exec_Assign_Name_used _ _ _ _ hsw]
  refine wpAny_bind (wpAny_standAt (wpAny_bind ?_))
  show wpAny _ X.A (do let _ ← comprehension (.ListComp el [⟨tg, src, ts, 0⟩] sc ps) sc X.env _ (newList []) false (eval src X.env) (some (assign (.Name x0 pos0) X.env))) _ _ s
  refine wpAny_bind (wpAny_mono (wpAny_comprehension_free (use := some (assign (.Name x0 pos0) X.env)) (Q := fun _ s' => SP X pins Dn .next s') rfl hs hcl ok.kind ok.nm ?_) (fun _ s' hq => wpAny_pure (wpAny_pure hq)) fun _ _ e => e)
  refine thn (hi pins s σ H _ I h) fun v s1 h1 => thn h1 fun itv s2 h2 => ?_
  obtain ⟨it, fp, tn, J, H2, e, I2, T, st2, f2, W, ⟨m0, w0⟩, turn⟩ := h2
  subst e
  refine wpAny_newObj_type (wpAny_newFunctionEnv ok.nc (by intro y hy; simp at hy) (fun h4 hns hsb => ?_) ok.kind)
  dsimp only at hns hsb ⊢
  generalize hH3 : s2.heap.push { cls := .type "list", dict := none, data := .seq ([] : List Value).toArray } = h3 at hns hsb ⊢
  have hC : h3.objs.size = s2.heap.objs.size + 1 := by rw [← hH3, Heap.size_push]
  generalize hCC : h3.objs.size = C at hns hsb hC ⊢
  generalize hDD : s2.heap.objs.size = D at hC ⊢
  have hDC : D ≠ C := by rw [hC]; exact Nat.ne_of_lt (Nat.lt_succ_self _)
  have old : ∀ b o, s2.heap.get? b = some o → h4.get? b = some o := fun b o e => hsb.extBut b o (by have := Heap.lt_size e; rw [hDD] at this; rw [hC]; exact Nat.ne_of_lt (Nat.lt_succ_of_lt this)) (Heap.get?_push_of_some _ (hH3 ▸ Heap.get?_push_of_some _ e))
  have accO : h4.get? D = some { cls := .type "list", data := .seq ([] : List Value).toArray 0 } := hsb.extBut _ _ hDC (Heap.get?_push_of_some _ (by rw [← hH3, ← hDD]; exact Heap.get?_push_size _ rfl))
  have H2D : H2 D = none := I2.hok.fresh (by rw [hDD]; exact Nat.le_refl _)
  have H2C : H2 C = none := I2.hok.fresh (by rw [hDD, hC]; exact Nat.le_succ _)
  have cellsLt : ∀ x c, X.env.cells.lookup x = some c → c < D := fun x c e => by
    obtain ⟨v, q⟩ := I2.cell x c e
    rw [← hDD]; exact q.lt
  have pinLt : ∀ p ∈ X.pn ++ pins, p.1 < D := fun p hp => by rw [← hDD]; exact Heap.lt_size (I2.pin p hp).1
  have stkLt : ∀ b ∈ frs X.stack, b < D := fun b hb => by
    obtain ⟨_, o, ho, _⟩ := I2.stack.mem hb
    rw [← hDD]; exact Heap.lt_size ho
  have fpLt : ∀ b ∈ fp, b < D := fun b hb => by
    obtain ⟨o, ho, _⟩ := T.obj _ _ st2 b hb
    rw [← hDD]; exact Heap.lt_size ho
  have ltC : ∀ {b : Addr}, b < D → b ≠ C := fun hb => by rw [hC]; exact Nat.ne_of_lt (Nat.lt_succ_of_lt hb)
  have locLt : X.env.locals < D := by rw [← hDD]; exact I2.lt
  have hDge : s2.heap.objs.size ≤ D := by rw [hDD]; exact Nat.le_refl _
  have hCge : s2.heap.objs.size ≤ C := by rw [hDD, hC]; exact Nat.le_succ _
  -- the block's context
  have bok : (blk X N' sc cl C s2 H2 fp (X.pn ++ pins)).Ok := by
    refine ⟨I2.ok.mod, ok.kind, I2.ok.glob, I2.ok.blt, hCge, fun x y c e1 e2 => I2.ok.inj x y c (clm x c e1) (clm y c e2), fun x hx => ?_, fun x c z _ => ?_, I2.ok.hd, I2.ok.frames, .inl rfl, fun b hb => ?_, I2.bs, Nat.le_trans I2.ok.bsz I2.sz, fun b o e hb => ?_, fun b hb z => ?_, I2.stack, I2.stkFree⟩
    · have hx' : (relabel sc X.env).names.lookup x = some .cell ∨ (relabel sc X.env).names.lookup x = some .free := hx
      have hm : (x, NameKind.free) ∈ sc.names := by
        rcases hx' with z | z
        · exact relabel_mem (PySem.mem_of_lookup z) ok.nc (.inl rfl)
        · exact relabel_mem (PySem.mem_of_lookup z) ok.nc (.inr rfl)
      obtain ⟨c, hc⟩ := closL_has X.env sc.names [] x hm
      rw [hgl] at hc
      exact lookup_of_mem hc
    · exact absurd (show false = true from z) Bool.false_ne_true
    · exact ⟨ltC (fpLt b hb), fun x c e => (f2 b hb).2.2.2.2.1 x c (clm x c e)⟩
    · rcases (f2 b hb).2.2.2.1 with z | z
      · exact I2.ok.noex b o e z
      · have := Heap.lt_size e
        exact absurd (Nat.lt_of_lt_of_le this (Nat.le_trans I2.ok.bsz z)) (Nat.lt_irrefl _)
    · rcases List.mem_cons.mp (I2.stkSub b z) with q | q
      · exact (f2 b hb).2.1 q
      · exact (f2 b hb).2.2.1 q
  have pinB : ∀ p ∈ X.pn ++ pins, p.1 ≠ C ∧ p.1 ∉ frs X.stack := fun p hp => ⟨ltC (pinLt p hp), fun z => by
    rcases List.mem_cons.mp (I2.stkSub p.1 z) with q | q
    · exact (I2.pin p hp).2.2.1 q
    · exact (I2.pin p hp).2.2.2.1 q⟩
  have I4 : Inv (blk X N' sc cl C s2 H2 fp (X.pn ++ pins)) [] (capS cap σ) H2 { s2 with heap := h4, toks := s2.toks + ([] : List (Str × Value)).length } := by
    refine ⟨bok, rfl, I2.bare, Un.kept old, ⟨_, hns, fun j x v e1 e2 e3 => ?_⟩, fun x c e => ?_, H2C, fun x c e => I2.freeC x c (clm x c e), fun p hp => ?_, I2.hok.kept old, ?_⟩
    · unfold capS at e2
      rw [List.getElem?_map] at e2
      cases e4 : cap[j]? with
      | none => rw [e4] at e2; cases e2
      | some o =>
        rw [e4] at e2
        cases o with
        | none => cases e2
        | some i =>
          obtain ⟨hNi, hf⟩ := ok.cp j i x e1 e4
          have e5 : (σ[i]?).join = some v := by
            have := Option.some.inj e2
            simpa using this
          have e6 : σ[i]? = some (some v) := by
            cases e7 : σ[i]? with
            | none => rw [e7] at e5; cases e5
            | some z => rw [e7] at e5; cases z with
              | none => cases e5
              | some z => cases e5; rfl
          have hk := ok.fr (x, .free) (PySem.mem_of_lookup hf) rfl
          obtain ⟨m, hn, hl⟩ := I2.loc
          have hv : Vis X.env.scope x := by
            rcases hk with z | z
            · exact .inr (.inl z)
            · exact .inr (.inr z)
          obtain ⟨u, r, lk⟩ := hl i x v hNi e6 hv
          have cellX : ∃ c, X.env.cells.lookup x = some c ∧ s2.heap.IsCell c (some u) := by
            rcases lk with ⟨k1, _⟩ | ⟨_, c, e, z⟩
            · rcases hk with z | z
              · have z' : X.env.kindOf x = some .cell := z
                rw [k1] at z'; cases z'
              · have z' : X.env.kindOf x = some .free := z
                rw [k1] at z'; cases z'
            · exact ⟨c, e, z⟩
          obtain ⟨c, hc1, ob, hc2, hc3⟩ := cellX
          obtain ⟨c', hc'⟩ := closL_has X.env sc.names [] x (PySem.mem_of_lookup hf)
          rw [hgl] at hc'
          obtain ⟨d, hd⟩ := lookup_of_mem hc'
          have ed : d = c := by
            have := clm x d hd
            rw [hc1] at this; cases this; rfl
          subst ed
          refine ⟨u, r, .inr ⟨?_, d, hd, ob, old _ _ hc2, hc3⟩⟩
          exact relabel_free hf
    · obtain ⟨v, ob, ho, hd⟩ := I2.cell x c (clm x c e)
      exact ⟨v, ob, old _ _ ho, hd⟩
    · have hp' : p ∈ X.pn ++ pins := by simpa [blk] using hp
      obtain ⟨e1, e2, e3, e4, e5⟩ := I2.pin p hp'
      exact ⟨old _ _ e1, e2, (pinB p hp').1, (pinB p hp').2, e5⟩
    · show (capS cap σ).length = N'.length
      unfold capS
      rw [List.length_map]; exact ok.len
  -- what stays true of the iterator's records
  have fpB : ∀ {H' : Hp} {pl : List (Addr × Obj)}, (∀ b ∈ fp, H' b = none) → (∀ p ∈ pl, p.1 ∉ fp) → ∀ b ∈ fp, FpOk (blk X N' sc cl C s2 H2 fp (X.pn ++ pins)) pl H' b := fun {H' pl} hn hpl b hb =>
    ⟨hn b hb, ltC (fpLt b hb), bok.exfs b hb, .inl hb, fun x c e => (f2 b hb).2.2.2.2.1 x c (clm x c e), fun p hp z => by
      rcases List.mem_append.mp (show p ∈ (X.pn ++ pins) ++ pl from hp) with q | q
      · exact (f2 b hb).2.2.2.2.2 p q z
      · exact hpl p q (by rw [z]; exact hb)⟩
  have Dfp : ∀ (o : Obj), ∀ p ∈ [(D, o)], p.1 ∉ fp := fun o p hp z => by
    have e : p = (D, o) := by simpa using hp
    subst e
    exact Nat.lt_irrefl _ (fpLt D z)
  have Dfs : D ∉ frs X.stack := fun z => Nat.lt_irrefl _ (stkLt D z)
  obtain ⟨bG, bT, bE⟩ := body cl C s2 H2 fp (X.pn ++ pins)
  have loop : codeAny (model X.prog X.w) X.A (.compLoop (.ListComp el [⟨tg, src, ts, 0⟩] sc ps) 0 (.ref it) (.ref D) (compEnvC sc cl C X.env)) (compPost (model X.prog X.w) X.A X.xe (some (assign (.Name x0 pos0) X.env)) (fun _ s' => SP X pins Dn .next s') (.ref D) C)
      { s2 with heap := h4, toks := s2.toks + ([] : List (Str × Value)).length } := by
    refine comp_loop (fun n s' => ∃ i τ ys us k H', Inv (blk X N' sc cl C s2 H2 fp (X.pn ++ pins)) [] τ H' s' ∧ tn i s'.heap ∧ (∀ b ∈ fp, H' b = none) ∧ Vals ys us ∧ s'.heap.get? D = some { cls := .type "list", data := .seq us.toArray k } ∧ H' D = none ∧ W i n τ ys H') ?_ m0
      ⟨0, _, [], [], 0, H2, I4, T.keep _ _ _ st2 (fun b _ o e => old b o e), fun b hb => (f2 b hb).1, .nil, accO, H2D, w0⟩
    rintro n s5 ⟨i, τ, ys, us, k, H5, I5, st5, fr5, rv5, ho5, hD5, w5⟩
    obtain ⟨hsz, alt⟩ := turn i n τ ys H5 w5
    have I5p : Inv (blk X N' sc cl C s2 H2 fp (X.pn ++ pins)) [(D, { cls := .type "list", data := .seq us.toArray k })] τ H5 s5 := I5.pins_of fun p hp => by
      have e : p = (D, { cls := .type "list", data := .seq us.toArray k }) := by simpa using hp
      subst e
      exact ⟨ho5, hD5, hDC, Dfs, fun v z => by cases z⟩
    rcases alt with ⟨stop, fin⟩ | ⟨go, step⟩
    · refine thn (T.done (blk X N' sc cl C s2 H2 fp (X.pn ++ pins)) rfl rfl rfl hc i _ s5 τ H5 NoX I5p (fpB fr5 (Dfp _)) st5 stop) fun r s6 ⟨hr, I6⟩ => ?_
      subst hr
      have ho6 := (I6.pin (D, _) (List.mem_append_right _ (List.mem_singleton.mpr rfl))).1
      obtain ⟨m6, hn6, _⟩ := I6.loc
      have J6 : Inv X pins σ H5 s6 := I2.call' (ch := fp) I6.os I6.base I6.hok I6.bare fun b hb => ⟨(f2 b hb).2.2.2.1, (f2 b hb).2.1, (f2 b hb).2.2.2.2.1, (f2 b hb).2.2.2.2.2⟩
      have H5C : H5 C = none := I6.free
      have J7 : Inv X pins σ (upd H5 D (.lst ys)) s6 := Inv.track J6 hD5 (Nat.le_trans I2.sz hDge) (Ne.symm (Nat.ne_of_lt locLt)) (fun x c e => Nat.ne_of_lt (cellsLt x c e)) (fun p hp => Nat.ne_of_lt (pinLt p hp)) ⟨Nat.le_of_lt hsz, us, k, rv5, ho6⟩
      refine wpAny_assign_Name (store_ok2 J7 hN hi0 hx0 (show RelV (.ref D) (.ref D) from rfl) (fun s8 I8 ⟨a, sb, ha⟩ => ?_) hf0)
      have aC : C ≠ a := by
        rcases ha with z | z
        · rw [z]; exact Ne.symm (ltC locLt)
        · exact Ne.symm (ltC (cellsLt _ _ z))
      refine ⟨m6, hn6.sameBut sb aC, fun h7 hs7 => ?_⟩
      have J8 : Inv X pins (σ.set i0 (some (.ref D))) (upd H5 D (.lst ys)) { s8 with heap := h7, toks := s8.toks } := I8.turned (it := C) (fun b o hb e => hs7.extBut b o hb e) (by rw [upd_ne (Ne.symm hDC)]; exact H5C) (Ne.symm (ltC locLt)) (.inr (Nat.le_trans I2.sz hCge)) (fun x c e => ltC (cellsLt x c e)) (fun p hp => ltC (pinLt p hp))
      exact ⟨_, _, J8, fin D hD5⟩
    · refine thn (T.item (blk X N' sc cl C s2 H2 fp (X.pn ++ pins)) rfl rfl rfl hc i _ s5 τ H5 NoX I5p (fpB fr5 (Dfp _)) st5 go) fun r s6 ⟨u, hr, h6⟩ => ?_
      subst hr
      refine thn h6 fun _ s7 ⟨x, H7, I7, r7, y7, st7, fr7⟩ => ?_
      have I7p := I7.pinned (fpB fr7 (Dfp _)) (T.obj _ _ st7)
      refine thn (bG _ s7 τ H7 x u _ I7p r7 (step x H7 y7)) fun _ s8 ⟨τ8, H8, I8, q8⟩ => ?_
      have back : ∀ {τ9 : St} {H9 : Hp} {s9 : Shared}, Inv (blk X N' sc cl C s2 H2 fp (X.pn ++ pins)) ([(D, { cls := .type "list", data := .seq us.toArray k })] ++ pinsAt fp s7.heap) τ9 H9 s9 →
          tn (i + 1) s9.heap ∧ (∀ b ∈ fp, H9 b = none) ∧ s9.heap.get? D = some { cls := .type "list", data := .seq us.toArray k } ∧ H9 D = none := fun {τ9 H9 s9} I9 => by
        have pD := I9.pin (D, { cls := .type "list", data := .seq us.toArray k }) (List.mem_append_right _ (List.mem_append_left _ (List.mem_singleton.mpr rfl)))
        refine ⟨T.keep _ _ _ st7 fun b hb o e => (I9.pin (b, o) (List.mem_append_right _ (List.mem_append_right _ (mem_pinsAt hb e)))).1, fun b hb => ?_, pD.1, pD.2.1⟩
        obtain ⟨o, e, _⟩ := T.obj _ _ st7 b hb
        exact (I9.pin (b, o) (List.mem_append_right _ (List.mem_append_right _ (mem_pinsAt hb e)))).2.1
      have drop : ∀ {τ9 : St} {H9 : Hp} {s9 : Shared} {pl : List (Addr × Obj)}, Inv (blk X N' sc cl C s2 H2 fp (X.pn ++ pins)) pl τ9 H9 s9 → Inv (blk X N' sc cl C s2 H2 fp (X.pn ++ pins)) [] τ9 H9 s9 := fun I9 => I9.pins_of fun p hp => nomatch hp
      refine thn (bT _ s8 τ8 H8 _ I8 q8) fun b s9 ⟨H9, I9, q9⟩ => ?_
      cases b with
      | false =>
        rw [if_neg Bool.false_ne_true] at q9 ⊢
        obtain ⟨m', hm, w9⟩ := q9
        obtain ⟨t9, f9, o9, d9⟩ := back I9
        exact ⟨m', hm, i + 1, τ8, ys, us, k, H9, drop I9, t9, f9, rv5, o9, d9, w9⟩
      | true =>
        rw [if_pos rfl] at q9 ⊢
        refine thn (bE _ s9 τ8 H9 _ I9 q9) fun y s10 ⟨z, H10, I10, r10, q10⟩ => ?_
        obtain ⟨m', hm, w10⟩ := q10
        obtain ⟨t10, f10, o10, d10⟩ := back I10
        have hl := rv5.length
        refine append_at (hsz := by show us.toArray.size ≤ sizeLine; rw [List.size_toArray, ← hl]; exact Nat.le_of_lt hsz) o10 fun h11 hs11 hD11 => ?_
        have I11 : Inv (blk X N' sc cl C s2 H2 fp (X.pn ++ pins)) [] τ8 H10 { s10 with heap := h11, toks := s10.toks } := (drop I10).turned (it := D) (fun b o hb e => hs11.extBut b o hb e) d10 hDC (.inr hDge) (fun x c e => Nat.ne_of_lt (cellsLt x c (clm x c e)))
          (fun p hp => by have hp' : p ∈ X.pn ++ pins := by simpa [blk] using hp
                          exact Nat.ne_of_lt (pinLt p hp'))
        refine ⟨m', hm, i + 1, τ8, ys ++ [z], us ++ [y], k + 1, H10, I11, T.keep _ _ _ t10 (fun b hb o e => hs11.extBut b o (Nat.ne_of_lt (fpLt b hb)) e), f10, rv5.append (.cons r10 .nil), ?_, d10, w10⟩
        rw [hD11]
        simp
  refine codeAny_compStart_list loop ?_
  exact T.self _ 0 _ _ _ (T.keep _ _ _ st2 (fun b _ o e => old b o e)) loop

theorem comp_imp {K : PySem.W.Frag} {fi : Rho → Option (List PyData)} {cap : List (Option Nat)} {ga : PyData → Rho → Option Rho} {ft : Rho → Option Bool} {fe : Rho → Option PyData} {σ : St} {H : Hp} {Q : VK} (h : tD K (compD fi cap ga ft fe) σ H Q) :
    tComp (tDI K fi) cap (tDG K ga) (tDT K ft) (tD K fe) σ H Q := by
  obtain ⟨ρ, d, en, q, k⟩ := h
  cases h1 : fi ρ with
  | none => simp [compD, h1] at q
  | some ds =>
    by_cases hf : few ds = true
    · cases h2 : compL ga ft fe ds (capR cap ρ) with
      | none => simp [compD, h1, hf, h2] at q
      | some ys =>
        have : PyData.list ys = d := by simpa [compD, h1, hf, h2] using q
        subst this
        refine ⟨ρ, ds, en, h1, fun J H1 s1 Y => ?_⟩
        refine ⟨fun i m τ us H2 => m = ds.length - i ∧ i ≤ ds.length ∧ Same H1 H2 ∧ us.length ≤ i ∧ ∃ ρ2 zs ws, EnvR K H2 ρ2 τ ∧ Reps K H2 zs us ∧ compL ga ft fe (ds.drop i) ρ2 = some ws ∧ ys = zs ++ ws,
          ⟨ds.length, by simp, Nat.zero_le _, Same.refl _, Nat.le_refl _, capR cap ρ, [], ys, (en.mono s1).cap cap, rfl, by simpa using h2, rfl⟩, ?_⟩
        rintro i m τ us H2 ⟨rfl, hi', s2, hu, ρ2, zs, ws, en2, r2, q2, ey⟩
        have hsm : us.length < sizeLine := Nat.lt_of_le_of_lt (Nat.le_trans hu hi') (Nat.lt_of_lt_of_le (by simpa [few] using hf) (by rw [sizeLine_eq]; decide : 1000000 ≤ sizeLine))
        obtain ⟨g1, g2, g3⟩ := Y i H2 (Same.e s2)
        refine ⟨hsm, ?_⟩
        by_cases hlt : i < ds.length
        · right
          have hd : ds.drop i = ds[i] :: ds.drop (i + 1) := List.drop_eq_getElem_cons hlt
          rw [hd] at q2
          refine ⟨g1 hlt, fun x H3 y => ?_⟩
          obtain ⟨s3, r3⟩ := g3 x H3 y
          have r3' := r3 ds[i] (by simp [hlt])
          cases h4 : ga ds[i] ρ2 with
          | none => simp [compL, h4] at q2
          | some ρ4 =>
            refine ⟨ρ2, ds[i], ρ4, en2.mono s3, r3', h4, fun σ5 H5 s5 en5 => ?_⟩
            cases h5 : ft ρ4 with
            | none => simp [compL, h4, h5] at q2
            | some b =>
              refine ⟨ρ4, b, en5, h5, fun H6 s6 => ?_⟩
              have s26 := s3.trans (s5.trans s6)
              cases b with
              | false =>
                refine iteF ?_
                exact ⟨ds.length - (i + 1), by omega, rfl, hlt, s2.trans s26, by omega, ρ4, zs, ws, en5.mono s6, Reps.mono s26 _ _ r2, by simpa [compL, h4, h5] using q2, ey⟩
              | true =>
                refine iteT ?_
                cases h6 : fe ρ4 with
                | none => simp [compL, h4, h5, h6] at q2
                | some y =>
                  cases h7 : compL ga ft fe (ds.drop (i + 1)) ρ4 with
                  | none => simp [compL, h4, h5, h6, h7] at q2
                  | some ws' =>
                    have hw : y :: ws' = ws := by simpa [compL, h4, h5, h6, h7] using q2
                    refine ⟨ρ4, y, en5.mono s6, h6, fun v H7 s7 r7 => ?_⟩
                    refine ⟨ds.length - (i + 1), by omega, rfl, hlt, s2.trans (s26.trans s7), by rw [List.length_append]; simp; omega, ρ4, zs ++ [y], ws', (en5.mono s6).mono s7, (Reps.mono (s26.trans s7) _ _ r2).append ⟨v, [], rfl, r7, rfl⟩, h7, ?_⟩
                    rw [ey, ← hw]; simp
        · left
          have he : i = ds.length := by omega
          have hn : ds.drop i = [] := by rw [he]; simp
          rw [hn] at q2
          have hw : [] = ws := by simpa [compL] using q2
          subst hw
          have ey' : ys = zs := by simpa using ey
          subst ey'
          exact ⟨g2 (by omega), fun l hl => k _ _ (s1.trans (s2.trans (same_upd hl))) ⟨l, us, rfl, upd_same, Reps.mono (same_upd hl) _ _ r2⟩⟩
    · simp [compD, h1, hf] at q
section
variable {X : Cx} {tg src : Expr} {pos pos' : Pos}
theorem psd_setC (i : Nat) {x : Str} {el : Expr} {ts : List Expr} {sc : Scope} {ps : Pos} {fi : Rho → Option (List PyData)} {ga : PyData → Rho → Option Rho} {ft : Rho → Option Bool} {fe : Rho → Option PyData} (N' : List Str) (cap : List (Option Nat)) (hc : X.calm = true) (hN : X.N.Nodup) (hi : PID X tg src fi) (ok : CompOk X sc N' cap)
    (body : ∀ cl C s0 H0 fp pn, PGD (blk X N' sc cl C s0 H0 fp pn) tg ga ∧ PTsD (blk X N' sc cl C s0 H0 fp pn) ts ft ∧ PD (blk X N' sc cl C s0 H0 fp pn) el fe)
    (hi0 : X.N[i]? = some x := by rfl) (hx : Loc X.env.scope x := by first | exact Or.inl rfl | exact Or.inr rfl) (hsw : swapsWith (.ListComp el [⟨tg, src, ts, 0⟩] sc ps) (some (.Name x pos')) pos.line X.env = pure true := by rfl)
    (hf : X.fn x = true ∨ X.env.scope.names.lookup x = some .local := by first | exact .inl rfl | exact .inr rfl | assumption)
    (hs : ∀ x, foldedSetIterable src X.env x = pure x := by intro _; rfl) : PSD X (.Assign [.Name x pos'] (.ListComp el [⟨tg, src, ts, 0⟩] sc ps) pos) (asgS (compD fi cap ga ft fe) (asgN i)) := by
  with_unfolding_all
   refine PS.imp (ps_comp (g := tDG X.K ga) (tt := tDT X.K ft) (te := tD X.K fe) hc hi ok (fun cl C s0 H0 fp pn => body cl C s0 H0 fp pn) hN hi0 hx hsw hf hs) fun D σ H ⟨ρ, o, en, q, k⟩ => comp_imp ?_
   cases h1 : compD fi cap ga ft fe ρ with
   | none => simp [asgS, h1] at q
   | some d =>
     have : Out.nx (ρ.set i (some d)) = o := by simpa [asgS, h1, asgN] using q
     subst this
     exact ⟨ρ, d, en, h1, fun v H1 s1 r1 => k _ H1 s1 ((en.mono s1).set r1)⟩
end
end BX

end
section
set_option Elab.async false
set_option linter.all false
set_option maxRecDepth 100000
set_option maxHeartbeats 4000000
namespace BX
open PySem PySem.Spec L2
open PyProof.Rows hiding St
structure Mine (X : Cx) (H : Hp) (b : Addr) : Prop where
  un : H b = none
  new : X.s₀.heap.get? b = none
  loc : b ≠ X.env.locals
  cel : ∀ x c, X.env.cells.lookup x = some c → c ≠ b
  pin : ∀ p ∈ X.pn, p.1 ≠ b
structure Xc (X : Cx) (H : Hp) (h : Heap) (e C : Addr) : Prop where
  mine : Mine X H e
  ob : ∃ oe vs, h.get? e = some oe ∧ (oe.cls = .ref C ∧ oe.dict = none) ∧ oe.data = .fields vs ∧ 1 < vs.size ∧
    (vs[1]? = some .none ∨ ∃ T oT ts, vs[1]? = some (.ref T) ∧ T ≠ e ∧ Mine X H T ∧ h.get? T = some oT ∧ oT.data = .fields ts ∧ 3 < ts.size)
theorem Inv.exIn {X : Cx} {pins : List (Addr × Obj)} {σ : St} {H : Hp} {s : Shared} {ch : List Addr} (I : Inv X pins σ H s) (hn : ∀ b ∈ ch, X.s₀.heap.get? b = none ∧ b ≠ X.env.locals ∧ ∀ x c, X.env.cells.lookup x = some c → c ≠ b) : Inv { X with ex := ch ++ X.ex } pins σ H s := by
  have no : ∀ b, b ∉ ch ++ X.ex → b ∉ X.ex := fun b h z => h (List.mem_append_right _ z)
  refine ⟨⟨I.ok.mod, I.ok.kind, I.ok.glob, I.ok.blt, I.ok.above, I.ok.inj, I.ok.has, I.ok.cab, I.ok.hd, I.ok.frames, I.ok.stk, fun b hb => ?_, I.ok.bs, I.ok.bsz, fun b o e hb => ?_, fun b hb z => ?_, I.ok.funs, I.ok.frf⟩, I.os, I.bare,
    ⟨fun b o e n hf hx => I.base.keep b o e n hf (no b hx), fun b o e n hf hx => I.base.slot b o e n hf (no b hx), fun b o e n hx => I.base.free b o e n (no b hx), fun b o e hx => I.base.there b o e (no b hx), I.base.tups, I.base.frzs, I.base.tbls⟩, I.loc, I.cell, I.free, I.freeC, I.pin, I.hok, I.len⟩
  · rcases List.mem_append.mp hb with q | q
    · exact (hn b q).2
    · exact I.ok.exf b q
  · rcases List.mem_append.mp hb with q | q
    · have := (I.ok.bs b o e).1
      rw [(hn b q).1] at this; cases this
    · exact I.ok.noex b o e q
  · rcases List.mem_append.mp hb with q | q
    · obtain ⟨_, o, ho, _⟩ := I.ok.funs.mem z
      rw [(hn b q).1] at ho; cases ho
    · exact I.ok.exfs b q z
theorem Inv.exOut {X : Cx} {pins : List (Addr × Obj)} {σ : St} {H : Hp} {s : Shared} {ch : List Addr} (I : Inv { X with ex := ch ++ X.ex } pins σ H s) (ok : X.Ok) (hn : ∀ b ∈ ch, X.s₀.heap.get? b = none) : Inv X pins σ H s := by
  have no : ∀ b o, X.s₀.heap.get? b = some o → b ∉ X.ex → b ∉ ch ++ X.ex := fun b o e h z => by
    rcases List.mem_append.mp z with q | q
    · rw [hn b q] at e; cases e
    · exact h q
  exact ⟨ok, I.os, I.bare, ⟨fun b o e n hf hx => I.base.keep b o e n hf (no b o e hx), fun b o e n hf hx => I.base.slot b o e n hf (no b o e hx), fun b o e n hx => I.base.free b o e n (no b o e hx), fun b o e hx => I.base.there b o e (no b o e hx), I.base.tups, I.base.frzs, I.base.tbls⟩, I.loc, I.cell, I.free, I.freeC, I.pin, I.hok, I.len⟩
section
variable {X : Cx} {σ : St} {H : Hp} {s : Shared} {h' : Heap} {e C : Addr} {E : Value → Shared → Prop} {A : Around}
theorem Inv.shake {ch : List Addr} (I : Inv X [] σ H s) (hm : ∀ b ∈ ch, Mine X H b) (keep : ∀ b o, b ∉ frs X.stack → b ∉ ch → s.heap.get? b = some o → h'.get? b = some o)
    (slot : ∀ b o, b ∈ frs X.stack → b ∉ ch → s.heap.get? b = some o → ∃ sl, h'.get? b = some { o with slots := sl }) : Inv X [] σ H { s with heap := h' } := by
  have u : Un (frs X.stack) ch H H s.heap h' := ⟨fun b o q _ nf nc => keep b o nf nc q, fun b o q _ hf nc => slot b o hf nc q, fun _ _ _ n _ => n, fun b o q nc => by
    by_cases hf : b ∈ frs X.stack
    · obtain ⟨sl, z⟩ := slot b o hf nc q; exact ⟨_, z⟩
    · exact ⟨o, keep b o hf nc q⟩, fun _ _ q => q, fun _ _ _ q => q, fun _ ps q => ⟨#[], by rw [q]; simp⟩⟩
  have hok : HOk X.prog X.w H h' := fun b o q => (I.hok b o q).stay (fun c v hc r => by
    have hb : H c ≠ none := by
      rcases hc with rfl | hc
      · rw [q]; exact fun z => nomatch z
      · rw [hc]; exact fun z => nomatch z
    exact keep c v (fun z => hb (I.stkFree c z)) (fun z => hb (hm c z).un) r) (fun _ r => r) fun _ _ r => r
  exact Inv.exOut (Inv.call (X := { X with ex := ch ++ X.ex }) (g' := s.gens) (d' := s.drawn) (t' := s.toks) (Inv.exIn I fun b hb => ⟨(hm b hb).new, (hm b hb).loc, (hm b hb).cel⟩) u hok I.bare fun b hb => ⟨.inl (List.mem_append_left _ hb), (hm b hb).loc, (hm b hb).cel, fun p hp => (hm b hb).pin p (by simpa using hp)⟩) I.ok fun b hb => (hm b hb).new
structure XcT (X : Cx) (H : Hp) (h : Heap) (e C : Addr) : Prop where
  mine : Mine X H e
  ob : ∃ oe vs T oT ts, h.get? e = some oe ∧ (oe.cls = .ref C ∧ oe.dict = none) ∧ oe.data = .fields vs ∧ vs[1]? = some (.ref T) ∧ T ≠ e ∧ Mine X H T ∧ h.get? T = some oT ∧ oT.data = .fields ts ∧ 3 < ts.size
theorem XcT.c {h : Heap} (x : XcT X H h e C) : Xc X H h e C := by
  obtain ⟨oe, vs, T, oT, ts, h1, h2, h3, h4, h5, h6, h7, h8, h9⟩ := x.ob
  exact ⟨x.mine, oe, vs, h1, h2, h3, (Array.getElem?_eq_some_iff.mp h4).1, .inr ⟨T, oT, ts, h4, h5, h6, h7, h8, h9⟩⟩
structure Top0 (X : Cx) : Prop where
  st : X.stack = X.env :: X.outer
  fr : X.env.frame = some X.env.locals
  ex : X.ex = []
theorem Mine.nofr {b : Addr} (m : Mine X H b) (I : Inv X [] σ H s) : b ∉ frs X.stack := fun z => by
  rcases List.mem_cons.mp (I.stkSub b z) with q | q
  · exact m.loc q
  · obtain ⟨_, o, ho, _⟩ := I.ok.funs.mem q
    rw [m.new] at ho; cases ho
theorem live_of {P : Program} {w : World} {h : Heap} {b : Addr} {u : HO} (hok : HOk P w H h) (hH : H b = some u) (hb : h.get? b = none) : False := by
  have x := hok b u hH
  have no : ∀ {o : Obj}, h.get? b = some o → False := fun {o} q => by rw [hb] at q; cases q
  cases u with
  | lst xs => obtain ⟨_, _, _, _, e⟩ := x; exact no e
  | tup xs => obtain ⟨_, _, _, ⟨_, e, _⟩⟩ := x; exact no e
  | dK kvs => obtain ⟨_, _, _, _, o, _, _, e, _⟩ := x; exact no e
  | dT kvs => obtain ⟨_, _, _, _, o, _, _, e, _⟩ := x; exact no e
  | set S n => obtain ⟨o, _, _, _, e, _⟩ := x; exact no e
  | ins C dx fs => obtain ⟨_, _, _, e, _⟩ := x; exact no e
  | own y => obtain ⟨_, e⟩ := x; exact no e
  | xd fs => obtain ⟨_, ⟨_, _, _, e, _⟩, _⟩ := x; exact no e
  | rng lo hi => obtain ⟨_, _, _, e⟩ := x; exact no e
  | frz ob u => obtain ⟨e, _⟩ := x; exact no e
  | tbl ps => exact no (show h.get? b = some _ from x)
  | met f y => exact no (show h.get? b = some _ from x)
  | ext φ => obtain ⟨_, ⟨_, e⟩, _⟩ := x; exact no e
theorem mine_new (hx : X.ex = []) (I : Inv X [] σ H s) {b : Addr} (hb : s.heap.get? b = none) : Mine X H b := by
  have no : ∀ {o : Obj}, s.heap.get? b = some o → False := fun {o} q => by rw [hb] at q; cases q
  refine ⟨?_, ?_, fun z => ?_, fun x c q z => ?_, fun p hp z => ?_⟩
  · cases hH : H b with
    | none => rfl
    | some u => exact (live_of I.hok hH hb).elim
  · cases h0 : X.s₀.heap.get? b with
    | none => rfl
    | some o =>
      obtain ⟨o', q⟩ := I.base.there b o h0 (by rw [hx]; simp)
      exact (no q).elim
  · subst z
    obtain ⟨m, ⟨o, _, _, ho, _⟩, _⟩ := I.loc
    exact no ho
  · obtain ⟨v, o, ho, _⟩ := I.cell x c q
    subst z
    exact no ho
  · have := (I.pin p (List.mem_append_left _ hp)).1
    rw [z] at this
    exact no this
theorem entry_ok {oe : Obj} {vs : Array Value} {head : Value} {hadNext : Bool} (T0 : Top0 X) (hA : A.frames = some X.stack) (I : Inv X [] σ H s) (me : Mine X H e) (he : s.heap.get? e = some oe) (hc : oe.cls = .ref C ∧ oe.dict = none) (hd : oe.data = .fields vs) (hsz : 1 < vs.size) :
    wpAny (model X.prog X.w) A (do let a ← frameOf X.env; let pl ← entryPlaceOf X.env.locals hadNext; let b ← EntryCells.newEntry head a .none (rawInt X.env.locals) .none pl; setField (.ref e) 1 b) (fun _ s' => Inv X [] σ H s' ∧ XcT X H s'.heap e C) E s := by
  have hst := T0.st
  have hfn := I.stack
  rw [hst] at hfn hA
  have hene : e ∉ (X.env :: X.outer).filterMap (·.frame) := by
    have := me.nofr I
    rw [hst] at this; exact this
  refine wpAny_bind (wpAny_frameOf_fun hA hfn T0.fr fun h₁ hs₁ => ?_)
  refine wpAny_bind (wpAny_entryPlaceOf fun pl hpl => ?_)
  unfold EntryCells.newEntry newFields
  refine wpAny_bind (wpAny_newObj_type ?_ (hpl.sizeOk5 _ _ _ _ _))
  have he₁ : h₁.get? e = some oe := (hs₁.2.1 e hene).trans he
  generalize hob : ({ cls := .type "traceback", dict := none, data := .fields ([head, Value.ref X.env.locals, .none, rawInt X.env.locals, .none] ++ (if pl.isEmpty then List.replicate 6 Value.none else pl)).toArray } : Obj) = ob
  have obd : ob.data = .fields ([head, Value.ref X.env.locals, .none, rawInt X.env.locals, .none] ++ (if pl.isEmpty then List.replicate 6 Value.none else pl)).toArray := by rw [← hob]
  have obf : ob.isFreed = false := by rw [← hob]; rfl
  have he₂ : (h₁.push ob).get? e = some oe := Heap.get?_push_of_some ob he₁
  refine wpAny_setField he₂ hd hsz ?_
  have hTe : h₁.objs.size ≠ e := Nat.ne_of_gt (Heap.lt_size he₁)
  have hd₃ := Obj.data_mapFields hd (·.setIfInBounds 1 (Value.ref h₁.objs.size))
  have he₃ := Heap.get?_update_self (Obj.mapFields (·.setIfInBounds 1 (Value.ref h₁.objs.size))) he₂ (Obj.isFreed_of_fields hd₃)
  have hT₃ : ((h₁.push ob).update e (Obj.mapFields (·.setIfInBounds 1 (Value.ref h₁.objs.size)))).get? h₁.objs.size = some ob := (Heap.get?_update_other _ _ (Ne.symm hTe)).trans (Heap.get?_push_size h₁ obf)
  have keep : ∀ b o, b ≠ e → h₁.get? b = some o → ((h₁.push ob).update e (Obj.mapFields (·.setIfInBounds 1 (Value.ref h₁.objs.size)))).get? b = some o := fun b o hb q => by
    rw [Heap.get?_update_other _ _ (Ne.symm hb)]
    exact Heap.get?_push_of_some _ q
  have hfr : frs X.stack = (X.env :: X.outer).filterMap (·.frame) := by rw [hst]; rfl
  have sz : h₁.objs.size = s.heap.objs.size := hs₁.1
  have J : Inv X [] σ H { s with heap := (h₁.push ob).update e (Obj.mapFields (·.setIfInBounds 1 (Value.ref h₁.objs.size))) } := by
    refine Inv.shake (s := s) (ch := [e]) I (fun b hb => by rw [List.mem_singleton.mp hb]; exact me) (fun b o nf nc q => keep b o (fun z => nc (by simp [z])) ((hs₁.2.1 b (by rw [← hfr]; exact nf)).trans q)) (fun b o _ nc q => ?_)
    obtain ⟨sl, z⟩ := hs₁.2.2 b o q
    exact ⟨sl, keep b _ (fun w => nc (by simp [w])) z⟩
  refine ⟨J, me, _, _, h₁.objs.size, ob, _, he₃, ?_, hd₃, by simp [hsz], hTe, ?_, hT₃, obd, ?_⟩
  · rw [Obj.cls_mapFields]; exact ⟨hc.1, by unfold Obj.mapFields; split <;> exact hc.2⟩
  · exact mine_new T0.ex I (Heap.get?_none_of_le (by rw [sz]; exact Nat.le_refl _))
  · simp only [List.size_toArray, List.length_append, List.length_cons, List.length_nil]; omega
theorem note_ok (T0 : Top0 X) (hA : A.frames = some X.stack) (I : Inv X [] σ H s) (x : Xc X H s.heap e C) : wpAny (model X.prog X.w) A (noteFrame (.ref e) X.env) (fun _ s' => Inv X [] σ H s' ∧ XcT X H s'.heap e C) E s := by
  obtain ⟨oe, vs, he, hc, hd, hsz, hT⟩ := x.ob
  unfold noteFrame
  simp only [T0.fr]
  rcases hT with h1 | ⟨T, oT, ts, h1, hTe, mT, hT, hdT, h3⟩
  · refine wpAny_bind (wpAny_field he hd h1 ?_)
    rw [if_neg (by decide)]
    exact entry_ok T0 hA I x.mine he hc hd hsz
  · refine wpAny_bind (wpAny_field he hd h1 ?_)
    rw [if_pos (show (Value.ref T != Value.none) = true from by simp)]
    refine wpAny_bind (wpAny_field hT hdT (x := ts[3]) (by simp [h3]) ?_)
    by_cases hq : (ts[3] == rawInt X.env.locals) = true
    · rw [if_pos hq]
      exact wpAny_pure ⟨I, x.mine, oe, vs, T, oT, ts, he, hc, hd, h1, hTe, mT, hT, hdT, h3⟩
    · rw [if_neg hq]
      refine wpAny_bind (wpAny_setField hT hdT h3 ?_)
      have other : ∀ b, b ≠ T → (s.heap.update T (Obj.mapFields (·.setIfInBounds 3 Value.none))).get? b = s.heap.get? b := fun b hb => Heap.get?_update_other _ _ (Ne.symm hb)
      have J : Inv X [] σ H { s with heap := s.heap.update T (Obj.mapFields (·.setIfInBounds 3 Value.none)) } :=
        Inv.shake (s := s) (ch := [T]) I (fun b hb => by rw [List.mem_singleton.mp hb]; exact mT) (fun b o _ nc q => (other b fun z => nc (by simp [z])).trans q) fun b o _ nc q => ⟨o.slots, (other b fun z => nc (by simp [z])).trans q⟩
      exact entry_ok (s := { s with heap := s.heap.update T (Obj.mapFields (·.setIfInBounds 3 Value.none)) }) T0 hA J x.mine ((other e (Ne.symm hTe)).trans he) hc hd hsz
theorem flight_ok (fl : Option Addr) (I : Inv X [] σ H s) (x : XcT X H s.heap e C) : wpAny (model X.prog X.w) A (setFlight (.ref e) fl) (fun _ s' => Inv X [] σ H s' ∧ XcT X H s'.heap e C) E s := by
  obtain ⟨oe, vs, T, oT, ts, he, hc, hd, h1, hTe, mT, hT, hdT, h3⟩ := x.ob
  unfold setFlight
  refine wpAny_bind (wpAny_field he hd h1 ?_)
  rw [if_pos (show (Value.ref T != Value.none) = true from by simp)]
  refine wpAny_setField hT hdT h3 ?_
  have other : ∀ b, b ≠ T → (s.heap.update T (Obj.mapFields (·.setIfInBounds 3 (fl.elim Value.none fun f => rawInt f)))).get? b = s.heap.get? b := fun b hb => Heap.get?_update_other _ _ (Ne.symm hb)
  have J : Inv X [] σ H { s with heap := s.heap.update T (Obj.mapFields (·.setIfInBounds 3 (fl.elim Value.none fun f => rawInt f))) } :=
    Inv.shake (s := s) (ch := [T]) I (fun b hb => by rw [List.mem_singleton.mp hb]; exact mT) (fun b o _ nc q => (other b fun z => nc (by simp [z])).trans q) fun b o _ nc q => ⟨o.slots, (other b fun z => nc (by simp [z])).trans q⟩
  exact ⟨J, x.mine, oe, vs, T, _, _, (other e (Ne.symm hTe)).trans he, hc, hd, h1, hTe, mT, Heap.get?_update_self _ hT (Obj.isFreed_of_fields (Obj.data_mapFields hdT _)), Obj.data_mapFields hdT _, by simpa using h3⟩
theorem passes {P : Value → Shared → Prop} (T0 : Top0 X) (hA : A.frames = some X.stack) (hP : ∀ e s, P e s → ∃ a C σ H, e = .ref a ∧ Inv X [] σ H s ∧ Xc X H s.heap a C ∧ ∀ s', Inv X [] σ H s' → XcT X H s'.heap a C → P e s') : PassesOwn (model X.prog X.w) A X.env P := fun ev s' h => by
  obtain ⟨a, C, σ, H, rfl, I, x, back⟩ := hP ev s' h
  refine wpAny_mono (note_ok (E := fun _ _ => False) T0 hA I x) (fun _ s2 ⟨I2, x2⟩ => ?_) fun _ _ z => z.elim
  obtain ⟨oe, vs, T, oT, ts, he, hc, hd, h1, r⟩ := id x2.ob
  unfold cameBackBy
  refine wpAny_bind (wpAny_field he hd h1 ?_)
  rw [if_neg (by simp)]
  first
    | exact wpAny_mono (flight_ok (E := fun _ _ => False) _ I2 x2) (fun _ s3 ⟨I3, x3⟩ => back s3 I3 x3) fun _ _ z => z.elim
    | exact wpAny_bind (wpAny_pure (wpAny_mono (flight_ok (E := fun _ _ => False) _ I2 x2) (fun _ s3 ⟨I3, x3⟩ => back s3 I3 x3) fun _ _ z => z.elim))
end
structure XcO (h0 : Heap) (H : Hp) (h : Heap) (e C : Addr) : Prop where
  un : H e = none
  new : h0.get? e = none
  ob : ∃ oe vs T oT ts, h.get? e = some oe ∧ (oe.cls = .ref C ∧ oe.dict = none) ∧ oe.data = .fields vs ∧ vs[1]? = some (.ref T) ∧ T ≠ e ∧ H T = none ∧ h0.get? T = none ∧ h.get? T = some oT ∧ oT.data = .fields ts ∧ 3 < ts.size
noncomputable def CXt (P : Program) (w : World) : CXT := fun outer H s E ev s' => ∃ e C H', ev = .ref e ∧ s'.os = s.os ∧ AllBare s'.gens ∧ Un (frs outer) [] H H' s.heap s'.heap ∧ HOk P w H' s'.heap ∧ XcO s.heap H' s'.heap e C ∧ E (.ref C) none H'

section
variable {X : Cx}
theorem Xc.of (hx : X.ex = []) {pins : List (Addr × Obj)} {σ : St} {H H' : Hp} {s s' : Shared} {e0 C : Addr} (I : Inv X pins σ H s) (x : XcO s.heap H' s'.heap e0 C) : Xc X H' s'.heap e0 C := by
  have J : Inv X [] σ H s := I.pins_of fun p hp => nomatch hp
  obtain ⟨oe, ws, T, oT, ts, h1, h2, h3, h4, h5, h6, h7, h8, h9, h10⟩ := x.ob
  have m1 := mine_new hx J x.new
  have m2 := mine_new hx J h7
  exact ⟨⟨x.un, m1.new, m1.loc, m1.cel, m1.pin⟩, oe, ws, h1, h2, h3, (Array.getElem?_eq_some_iff.mp h4).1, .inr ⟨T, oT, ts, h4, h5, ⟨h6, m2.new, m2.loc, m2.cel, m2.pin⟩, h8, h9, h10⟩⟩
end
noncomputable def Thr (X : Cx) (H : Hp) (c : Str) (ev : Value) (s' : Shared) : Prop := ∃ e C σ' H', ev = .ref e ∧ X.mg c = some (.ref C) ∧ Inv X [] σ' H' s' ∧ Same H H' ∧ Xc X H' s'.heap e C
theorem Thr.mono {X : Cx} {H H1 : Hp} {c : Str} {ev : Value} {s' : Shared} (s : Same H H1) (h : Thr X H1 c ev s') : Thr X H c ev s' := by
  obtain ⟨e, C, σ', H', h1, h2, h3, h4, h5⟩ := h
  exact ⟨e, C, σ', H', h1, h2, h3, s.trans h4, h5⟩
@[irreducible] noncomputable def PDX (X : Cx) (e : Expr) (fx : Rho → Option Str) : Prop := ∀ (s : Shared) (σ : St) (H : Hp) (ρ : Rho) (c : Str), Inv X [] σ H s → EnvR X.K H ρ σ → fx ρ = some c → (∀ ev s', Thr X H c ev s' → X.xe ev s') → wpAny (model X.prog X.w) X.A (eval e X.env) (fun _ _ => False) X.xe s
@[irreducible] noncomputable def PSX (X : Cx) (st : Stmt) (fx : Rho → Option Str) : Prop := ∀ (s : Shared) (σ : St) (H : Hp) (ρ : Rho) (c : Str), Inv X [] σ H s → EnvR X.K H ρ σ → fx ρ = some c → (∀ ev s', Thr X H c ev s' → X.xe ev s') → wpAny (model X.prog X.w) X.A (exec st X.env) (fun _ _ => False) X.xe s
@[irreducible] noncomputable def PSsX (X : Cx) (sts : List Stmt) (fx : Rho → Option Str) : Prop := ∀ (s : Shared) (σ : St) (H : Hp) (ρ : Rho) (c : Str), Inv X [] σ H s → EnvR X.K H ρ σ → fx ρ = some c → (∀ ev s', Thr X H c ev s' → X.xe ev s') → wpAny (model X.prog X.w) X.A (execs sts X.env) (fun _ _ => False) X.xe s
noncomputable def vB : List Value := [.type "ValueError", .type "Exception", .type "BaseException", .type "object"]
noncomputable def ErrK (K : PySem.W.Frag) (mg : Str → Option Value) (x : Str) : Prop := ∃ C, mg x = some (.ref C) ∧ PySem.W.excIn K C vB "ValueError.__new__" = true
theorem err_obj {K : PySem.W.Frag} {h : Heap} {C : Addr} (X : K.In h) (q : PySem.W.excIn K C vB "ValueError.__new__" = true) :
    ∃ bm N nm qn bs hdct sn sub ab col dd k0 k1 k2 k3 k5 mN, h.get? C = some (excClassObj nm qn C N bs bm hdct sn sub ab col dd k0 k1 k2 k3 k5 "ValueError.__new__") ∧ h.Ns N mN ∧ mN "__init__" = none ∧ OwnTail h vB bm := by
  unfold PySem.W.excIn at q
  split at q
  · rename_i dd cd sl ho
    split at q
    · rename_i C' bm k0 k1 k2 k3 n k5 hm hs
      simp only [Bool.and_eq_true, beq_iff_eq, Bool.not_eq_true'] at q
      obtain ⟨⟨⟨⟨⟨rfl, rfl⟩, hdel⟩, ht⟩, hok⟩, hni⟩ := q
      obtain ⟨nm, bs, mro, ns, qn, hd, sn, sub, ab, col, del⟩ := cd
      dsimp only at hm hdel hok hni
      subst hm hdel
      have hsl : sl = #[k0, k1, k2, k3, some (.builtin "ValueError.__new__"), k5] := by
        obtain ⟨l⟩ := sl
        simp only at hs
        rw [hs]
      subst hsl
      exact ⟨bm, ns, nm, qn, bs, hd, sn, sub, ab, col, dd, k0, k1, k2, k3, k5, _, X _ _ ho, .of_isNs (PySem.W.isNs_of_in X hok), PySem.W.nsMap_none_of_in X hok hni, PySem.W.tail_of_in X ht⟩
    · cases q
  · cases q
section
variable {X : Cx} {e a b c : Expr} {es : List Expr} {st : Stmt} {sts rest : List Stmt} {fx gx : Rho → Option Str} {F : Rho → Option Out} {pos : Pos}
theorem pssx_here (h : PSX X st fx) : PSsX X (st :: rest) fx := by
  with_unfolding_all
   intro s σ H ρ c I en q k
   exact wpAny_execs_cons (wpAny_mono (h s σ H ρ c I en q k) (fun _ _ z => z.elim) fun _ _ z => z)
noncomputable def nxX (F : Rho → Option Out) (gx : Rho → Option Str) : Rho → Option Str := fun ρ => (F ρ).bind fun o => match o with
  | .nx ρ' => gx ρ'
  | _ => none
theorem pssx_next (h1 : PSD X st F) (h2 : PSsX X rest gx) : PSsX X (st :: rest) (nxX F gx) := by
  with_unfolding_all
   intro s σ H ρ c I en q k
   cases hF : F ρ with
   | none => simp [nxX, hF] at q
   | some o =>
     cases o with
     | nx ρ' =>
       have q' : gx ρ' = some c := by simpa [nxX, hF] using q
       refine wpAny_execs_cons (wpAny_mono (h1 [] s σ H { nx := fun σ' H' => Same H H' ∧ EnvR X.K H' ρ' σ', rt := fun _ _ => False, bk := fun _ _ => False, ct := fun _ _ => False } I ⟨ρ, .nx ρ', en, hF, fun σ' H' s1 e1 => ⟨s1, e1⟩⟩) (fun f s1 z => ?_) fun _ _ z => z)
       cases f with
       | next =>
         obtain ⟨σ', H', I', sm, e1⟩ := z
         exact wpAny_mono (h2 s1 σ' H' ρ' c I' e1 q' fun ev s' t => k ev s' (t.mono sm)) (fun _ _ z => z.elim) fun _ _ z => z
       | brk => obtain ⟨_, _, _, z⟩ := z; exact z.elim
       | cont => obtain ⟨_, _, _, z⟩ := z; exact z.elim
       | ret u => obtain ⟨_, _, _, _, _, z⟩ := z; exact z.elim
     | _ => simp [nxX, hF] at q
noncomputable def ifX (tc : Rho → Option Bool) (fx gx : Rho → Option Str) : Rho → Option Str := fun ρ => (tc ρ).bind fun x => if x = true then fx ρ else gx ρ
noncomputable def nevX : Rho → Option Str := fun _ => none
theorem pssx_never : PSsX X sts nevX := by
  with_unfolding_all
   intro s σ H ρ c I en q k
   cases q
theorem psx_if {l r : List Stmt} {tc : Rho → Option Bool} (hc : PTD X a tc) (hl : PSsX X l fx) (hr : PSsX X r gx) : PSX X (.If a l r pos) (ifX tc fx gx) := by
  with_unfolding_all
   intro s σ H ρ c I en q k
   cases ht : tc ρ with
   | none => simp [ifX, ht] at q
   | some x =>
     refine wpAny_If (wpAny_mono (hc [] s σ H (fun b H' => b = x ∧ Same H H') I ⟨ρ, x, en, ht, fun H' s1 => ⟨rfl, s1⟩⟩) (fun d s1 z => ?_) fun _ _ z => z)
     obtain ⟨H1, I1, rfl, s1'⟩ := z
     cases d with
     | true => exact hl s1 σ H1 ρ c I1 (en.mono s1') (by simpa [ifX, ht] using q) fun ev s' t => k ev s' (t.mono s1')
     | false => exact hr s1 σ H1 ρ c I1 (en.mono s1') (by simpa [ifX, ht] using q) fun ev s' t => k ev s' (t.mono s1')
theorem psx_ret (h : PDX X e fx) : PSX X (.Return (some e) pos) fx := by
  with_unfolding_all
   intro s σ H ρ c I en q k
   exact wpAny_Return_some (wpAny_mono (h s σ H ρ c I en q k) (fun _ _ z => z.elim) fun _ _ z => z)
theorem psx_expr (h : PDX X e fx) (hs : swapsWith e none pos.line X.env = pure false := by rfl) : PSX X (.Expr e pos) fx := by
  with_unfolding_all
   intro s σ H ρ c I en q k
   exact wpAny_Expr_any (wpAny_mono (h s σ H ρ c I en q k) (fun _ _ z => z.elim) fun _ _ z => z) I.quiet hs
theorem psx_set {x : Str} {pos' : Pos} (h : PDX X e fx) (hs : swapsWith e (some (.Name x pos')) pos.line X.env = pure false := by rfl) : PSX X (.Assign [.Name x pos'] e pos) fx := by
  with_unfolding_all
   intro s σ H ρ c I en q k
   exact wpAny_Assign_Name (wpAny_mono (h s σ H ρ c I en q k) (fun _ _ z => z.elim) fun _ _ z => z) hs
end
end BX

end
section
set_option Elab.async false
set_option linter.all false
set_option maxRecDepth 100000
set_option maxHeartbeats 4000000
namespace BX
open PySem PySem.Spec L2
open PyProof.Rows hiding St
noncomputable def PurX (K : PySem.W.Frag) (mg : Str → Option Value) (n : Nat) (gx : List PyData → Option Str) : Sp := fun vs H _ E => ∃ ds c, ds.length = n ∧ Reps K H ds vs ∧ gx ds = some c ∧ ∀ C H', mg c = some (.ref C) → Same H H' → E (.ref C) none H'
noncomputable def ThrC (P : Program) (w : World) (K : PySem.W.Frag) (mg : Str → Option Value) (base : Heap) (x : Str) (ps : List Str) (k n : Nat) (gx : List PyData → Option Str) : Prop :=
  ∃ (f : Addr) (fd : FuncData), FnOk P w K mg base (CXt P w) k f fd ps (PurX K mg n gx) ∧ mg x = some (.ref f) ∧ PySem.W.keepIn K (.ref f) = true ∧ Binds K fd ps []
section
variable {X : Cx} {e a b c : Expr} {es : List Expr} {st : Stmt} {sts rest : List Stmt} {fx gx : Rho → Option Str} {F : Rho → Option Out} {pos : Pos}
theorem pdx_call {k j n : Nat} {ps : List Str} {g : List PyData → Option Str} {x : Str} {p : Pos} {fr : Rho → Option (List PyData)} (hxe : X.ex = []) (C : ThrC X.prog X.w X.K X.mg X.base x ps k n g) (hr : Room j X.A) (hkj : k ≤ j) (ha : PAD X (e :: es) fr) (hl : ∀ ρ ds, fr ρ = some ds → ds.length = n)
    (hg : Gl X x := by rfl) (hdb : (x == ("__debug__" : Str)) = false := by decide) (he : starEach (e :: es) X.env = (false, eval e X.env) :: starEach es X.env := by rfl)
    (hpl : (backTo pos (starEach es X.env)).any (·.1) = false := by rfl) : PDX X (.Call (.Name x p) (e :: es) [] pos) (fun ρ => (fr ρ).bind g) := by
  with_unfolding_all
   intro s σ H ρ c I en q k'
   obtain ⟨f, fd, F, hm, hk, hb⟩ := C
   cases hd : fr ρ with
   | none => simp [hd] at q
   | some ds =>
     have q' : g ds = some c := by simpa [hd] using q
     refine wpAny_Call_Name_kw (ld_glob I hg hm ?_ hdb)
     refine PySem.W.callWith_K (h₀ := X.base) I.ok.mod.kin hk (thn (ha pos [] s σ H (fun vs H1 => Same H H1 ∧ Reps X.K H1 ds vs) I ⟨ρ, ds, en, hd, fun vs H1 s1 r1 => ⟨s1, r1⟩⟩) fun us s1 ⟨vs, H1, I1, r, sm, rd⟩ => ⟨I1.kIn, ?_⟩) he hpl
     have hsp : PurX X.K X.mg n g vs H1 (fun _ _ => False) (fun cls _ H' => X.mg c = some cls ∧ Same H1 H') → vs.length = ps.length := fun z => F.len _ _ _ _ z
     by_cases hn : ds.length = n
     · have sp : PurX X.K X.mg n g vs H1 (fun _ _ => False) (fun cls _ H' => X.mg c = some cls ∧ Same H1 H') := ⟨ds, c, hn, rd, q', fun C H' hC s2 => ⟨hC, s2⟩⟩
       have hlu : (us ++ []).length = ps.length := by rw [List.append_nil, ← r.length]; exact hsp sp
       have hbd := hb s1 us I1.kIn hlu
       rw [List.append_nil] at hbd
       refine wpAny_call (codeAny_mono (F.run X.A X.stack s1 H1 ⟨us, []⟩ us vs _ _ (hr.mono hkj) I1.env0 hbd r sp) fun rs s' hq => ?_)
       cases rs with
       | error ev =>
         obtain ⟨e0, C, H', rfl, os, bare, un, hok, xc, hC, sm2⟩ := hq
         have J' : Inv X [] σ H' s' := I1.call' (ch := []) os un hok bare fun b z => nomatch z
         exact k' _ _ ⟨e0, C, σ, H', rfl, hC, J', sm.trans sm2, Xc.of hxe I1 xc⟩
       | ok fl =>
         cases fl with
         | ret u => obtain ⟨v, H', _, _, _, _, _, z⟩ := hq; exact z.elim
         | next => exact False.elim hq
         | brk => exact False.elim hq
         | cont => exact False.elim hq
     · exact absurd (hl ρ ds hd) hn
theorem psx_raise {x m : Str} {k0 : _} {np p3 cpos : Pos} (hxe : X.ex = []) (hE : ErrK X.K X.mg x) (hc : X.calm = true) (hg : Gl X x := by rfl) (hdb : (x == ("__debug__" : Str)) = false := by decide)
    (he : starEach [.Constant (.str m) k0 p3] X.env = [(false, eval (.Constant (.str m) k0 p3) X.env)] := by rfl) : PSX X (.Raise (some (.Call (.Name x np) [.Constant (.str m) k0 p3] [] cpos)) none pos) (fun _ => some x) := by
  with_unfolding_all
   intro s σ H ρ c I en q k
   cases q
   obtain ⟨C, hm, hex⟩ := hE
   obtain ⟨bm, N, nm, qn, bs, hdct, sn, sub, ab, col, dd, k0', k1, k2, k3, k5, mN, hC, hN, hni, TL⟩ := err_obj (h := X.base) I.ok.mod.kin hex
   have hpl : (backTo cpos (starEach [.Constant (.str m) k0 p3] X.env)).any (·.1) = false := by rw [he]; rfl
   refine wpAny_Raise_call_subT (C := C) (nm := nm) (q := qn) (N := N) (bs := bs) (bm := bm) (hdct := hdct) (sn := sn) (sub := sub) (ab := ab) (col := col) (dd := dd) (k0 := k0') (k1 := k1) (k2 := k2) (k3 := k3) (k5 := k5) PySem.F.excBase_ValueError (mN := mN) (TL.hasType rfl) (I.ok.hd hc) hpl hni ?_
   refine wpAny_mono (pe_glob (pos := np) hg hm (show RelV (.ref C) (.ref C) from rfl) hdb [] s σ H (fun v H' => v = .ref C ∧ H' = H) I ⟨rfl, rfl⟩) (fun v s1 ⟨y, H1, I1, r1, e1, e2⟩ => ?_) fun _ _ z => z
   subst e1; subst e2
   obtain rfl : v = Value.ref C := r1
   refine ⟨rfl, ?_⟩
   have pa : PA X [.Constant (.str m) k0 p3] _ := pa_cons (X := X) pe_str pa_nil he
   have hsp := pa cpos [] s1 σ H1 (fun vs H' => vs.length = 1 ∧ H' = H1) I1 ⟨rfl, rfl⟩
   rw [he] at hsp ⊢
   refine Calls.evalArgs_plain (wpAny_mono hsp (fun us s2 ⟨vs, H2, I2, r2, l2, e2⟩ => ?_) fun _ _ z => z)
   subst e2
   have kp : ∀ b o, X.base.get? b = some o → s2.heap.get? b = some o := fun b o e => (I2.bs b o e).1
   refine ⟨rfl, ?_, kp _ _ hC, hN.keeps kp, TL.keeps kp, fun h' e0 md => ?_⟩
   · show us.length ≤ sizeLine
     rw [← r2.length, l2, sizeLine_eq]; decide
   · obtain ⟨t, h1, h2, h3⟩ := md.there
     have I3 : Inv X [] σ H2 { s2 with heap := h' } := I2.kept (t' := s2.toks) md.keeps
     have m0 := mine_new hxe I2 md.new
     exact k _ _ ⟨e0, C, σ, H2, rfl, hm, I3, Same.refl _, m0, _, _, h1, ⟨rfl, rfl⟩, rfl, by simp, .inl rfl⟩
end
end BX

end
section
set_option Elab.async false
set_option linter.all false
set_option maxRecDepth 100000
set_option maxHeartbeats 4000000
namespace BX
open PySem PySem.Spec L2
open PyProof.Rows hiding St
theorem fn_raw {CX : CXT} {P : Program} {w : World} {K : PySem.W.Frag} {mg : Str → Option Value} {base : Heap} {k : Nat} {f : Addr} {name qual : Str} {params : Arguments} {body : List Stmt} {scope : Scope} {dV kV doc pm cdv ct oc : Value} {an od : Option Addr}
    {osl : Array (Option Value)} {N ps : List Str} {sp : Sp} (lk : K.lookup f = some ⟨oc, od, .func (PySem.W.fnOf name qual params body scope dV kV doc pm an cdv ct), osl⟩) (hcd : PySem.W.codeIn K cdv qual = true) (S : FnScope N ps scope)
    (len : ∀ vs H Q E, sp vs H Q E → vs.length = ps.length)
    (hbody : ∀ (A : Around) (outer : List Env) (s : Shared) (H : Hp) (vs : List V) (Q : VK) (E : XK) (s1 : Shared), Room k (A.deeper (envOfC qual scope s.heap.objs.size f cdv)) → sp vs H Q E →
      Inv (cxOf CX P w K mg base N qual scope f cdv A outer s H E) [] (L2.start N vs) H s1 →
      wpAny (model P w) (A.deeper (envOfC qual scope s.heap.objs.size f cdv)) (execs body (envOfC qual scope s.heap.objs.size f cdv)) (SP (cxOf CX P w K mg base N qual scope f cdv A outer s H E) [] { nx := fun _ H' => Q .non H', rt := Q }) (cxOf CX P w K mg base N qual scope f cdv A outer s H E).xe s1) :
    FnOk P w K mg base CX (k + 1) f (PySem.W.fnOf name qual params body scope dV kV doc pm an cdv ct) ps sp := by
  refine ⟨len, fun A outer s H args us vs Q E hr e0 hb r hsp => ?_⟩
  have hl := len _ _ _ _ hsp
  have KX : K.In s.heap := e0.mod.kin.keeps fun b o e => (e0.bs b o e).1
  have lim : s.heap.NoLimit := e0.mod.nolimit.keeps fun b o e => (e0.bs b o e).1
  have hkind : ∀ y ∈ ps.zip us, scope.names.lookup y.1 = some .local ∨ (scope.names.lookup y.1 = some .cell ∧ ((cellsFrom (s.heap.objs.size + 1) scope.names []).lookup y.1).isSome = true) := fun ⟨n, v⟩ hy => by
    rcases S.par n (List.of_mem_zip hy).1 with q | q
    · exact .inl q
    · exact .inr ⟨q, PySem.W.cellsFrom_some _ _ _ (.inl q)⟩
  refine codeAny_call_function hr.depth (KX _ _ lk) rfl S.co S.gen rfl (PySem.W.codeRec_of KX hcd) (hb _ _ _ _ ?_)
  refine wpAny_newFunctionEnv_cells S.kind hkind fun env he s1 x => ?_
  subst he
  refine ⟨lim.keeps x.toInCall.keep, codeAny_func ?_⟩
  have I : Inv (cxOf CX P w K mg base N qual scope f cdv A outer s H E) [] (L2.start N vs) H s1 := inv_start S hr.hd e0 hl r x
  refine wpAny_mono (hbody A outer s H vs Q E s1 (hr.deeper _) hsp I) (fun fl s' hs => ?_) fun e s' hs => hs
  have fin : ∀ {σ' : St} {H' : Hp} {v : V} {u : Value}, Inv (cxOf CX P w K mg base N qual scope f cdv A outer s H E) [] σ' H' s' → RelV v u → Q v H' → CE outer P w H s Q u s' :=
    fun {σ' H' v u} J rv q => ⟨v, H', J.os, J.bare, J.base, J.hok, rv, q⟩
  cases fl with
  | ret u =>
    obtain ⟨v, σ', H', J, rv, q⟩ := hs
    exact fin J rv q
  | next =>
    obtain ⟨σ', H', J, q⟩ := hs
    exact fin (v := V.non) (u := Value.none) J rfl q
  | brk =>
    obtain ⟨_, _, _, q⟩ := hs
    exact False.elim q
  | cont =>
    obtain ⟨_, _, _, q⟩ := hs
    exact False.elim q

theorem top_cx {CX : CXT} {P : Program} {w : World} {K : PySem.W.Frag} {mg : Str → Option Value} {base : Heap} {N : List Str} {qual : Str} {scope : Scope} {f : Addr} {cd : Value} {A : Around} {outer : List Env} {s : Shared} {H : Hp} {E : XK} : Top0 (cxOf CX P w K mg base N qual scope f cd A outer s H E) := ⟨rfl, rfl, rfl⟩
section
variable {P : Program} {w : World} {K : PySem.W.Frag} {mg : Str → Option Value} {base : Heap}
noncomputable def bodyX (N : List Str) (n : Nat) (Fx : Rho → Option Str) (ds : List PyData) : Option Str := if ds.length = n then Fx (startR N ds) else none
theorem fn_thr {x qual : Str} {st : Stmt} {f : Addr} {fd : FuncData} {N ps : List Str} {k : Nat} {Fx : Rho → Option Str} (F : Fun K x qual st f fd) (S : FnScope N ps (defScope st))
    (body : ∀ (cdv : Value) (A : Around) (outer : List Env) (s : Shared) (H : Hp) (E : XK), Room k (A.deeper (envOfC qual (defScope st) s.heap.objs.size f cdv)) → PSsX (cxOf (CXt P w) P w K mg base N qual (defScope st) f cdv A outer s H E) (defBody st) Fx) :
    FnOk P w K mg base (CXt P w) (k + 1) f fd ps (PurX K mg ps.length (bodyX N ps.length Fx)) := by
  with_unfolding_all
   obtain ⟨oc, od, kV, doc, pm, an, cdv, ct, osl, rfl, lk, hcd⟩ := F.ex
   refine fn_raw lk hcd S (fun vs H Q E h => ?_) fun A outer s H vs Q E s1 hr h I => ?_
   · obtain ⟨ds, c, h1, h2, _⟩ := h
     rw [h2.length]; exact h1
   · obtain ⟨ds, c, h1, h2, h3, h4⟩ := h
     unfold bodyX at h3
     rw [if_pos h1] at h3
     refine wpAny_mono (body cdv A outer s H E hr s1 (L2.start N vs) H (startR N ds) c I (env_start h2) h3 fun ev s' t => ?_) (fun _ _ z => z.elim) fun _ _ z => z
     obtain ⟨e, C, σ', H', rfl, hC, J, sm, xc⟩ := t
     have T0 : Top0 (cxOf (CXt P w) P w K mg base N qual (defScope st) f cdv A outer s H E) := top_cx
     show wpAny (model P w) (A.deeper (envOfC qual (defScope st) s.heap.objs.size f cdv)) (leaving (envOfC qual (defScope st) s.heap.objs.size f cdv) (.ref e)) (fun _ s'' => CXt P w outer H s E (.ref e) s'') (fun e' s'' => CXt P w outer H s E e' s'') s'
     have n1 := note_ok (E := fun _ _ => False) (A := A.deeper (envOfC qual (defScope st) s.heap.objs.size f cdv)) T0 J.ok.frames J xc
     unfold leaving
     refine wpAny_bind (wpAny_mono n1 (fun _ s2 ⟨J2, t2⟩ => ?_) fun _ _ z => z.elim)
     have n2 := flight_ok (E := fun _ _ => False) (A := A.deeper (envOfC qual (defScope st) s.heap.objs.size f cdv)) none J2 t2
     refine wpAny_mono n2 (fun _ s3 ⟨J3, t3⟩ => ?_) fun _ _ z => z.elim
     obtain ⟨oe, ws, T, oT, ts, g1, g2, g3, g4, g5, g6, g7, g8, g9⟩ := t3.ob
     exact ⟨e, C, H', rfl, J3.os, J3.bare, J3.base, J3.hok, ⟨t3.mine.un, t3.mine.new, oe, ws, T, oT, ts, g1, g2, g3, g4, g5, g6.un, g6.new, g7, g8, g9⟩, h4 C H' hC sm⟩
end
end BX

end
section
set_option Elab.async false
set_option linter.all false
set_option maxRecDepth 100000
set_option maxHeartbeats 4000000
namespace BX
open PySem PySem.Spec L2
open PyProof.Rows hiding St
theorem Inv.asA {X : Cx} {pins : List (Addr × Obj)} {σ : St} {H : Hp} {s : Shared} {A : Around} {cm : Bool} {xe : Value → Shared → Prop} (I : Inv X pins σ H s) (hf : A.frames = some X.stack) (hd : cm = true → A.handled = none) : Inv { X with A := A, calm := cm, xe := xe } pins σ H s :=
  ⟨⟨I.ok.mod, I.ok.kind, I.ok.glob, I.ok.blt, I.ok.above, I.ok.inj, I.ok.has, I.ok.cab, hd, hf, I.ok.stk, I.ok.exf, I.ok.bs, I.ok.bsz, I.ok.noex, I.ok.exfs, I.ok.funs, I.ok.frf⟩, I.os, I.bare, I.base, I.loc, I.cell, I.free, I.freeC, I.pin, I.hok, I.len⟩
theorem Inv.ofA {X : Cx} {pins : List (Addr × Obj)} {σ : St} {H : Hp} {s : Shared} {A : Around} {cm : Bool} {xe : Value → Shared → Prop} (ok : X.Ok) (I : Inv { X with A := A, calm := cm, xe := xe } pins σ H s) : Inv X pins σ H s :=
  ⟨ok, I.os, I.bare, I.base, I.loc, I.cell, I.free, I.freeC, I.pin, I.hok, I.len⟩
theorem Mine.unwish {X : Cx} {E : Value → Shared → Prop} {H : Hp} {b : Addr} (m : Mine (X.wish E) H b) : Mine X H b := ⟨m.un, m.new, m.loc, m.cel, m.pin⟩
theorem Xc.unwish {X : Cx} {E : Value → Shared → Prop} {H : Hp} {h : Heap} {e C : Addr} (x : Xc (X.wish E) H h e C) : Xc X H h e C := by
  obtain ⟨oe, vs, h1, h2, h3, h4, h5⟩ := x.ob
  refine ⟨x.mine.unwish, oe, vs, h1, h2, h3, h4, ?_⟩
  rcases h5 with q | ⟨T, oT, ts, q1, q2, q3, q4⟩
  · exact .inl q
  · exact .inr ⟨T, oT, ts, q1, q2, q3.unwish, q4⟩
@[irreducible] noncomputable def PS0 (X : Cx) (st : Stmt) (F : Rho → Option Out) : Prop := ∀ (s : Shared) (σ : St) (H : Hp) (D : Ends), Inv X [] σ H s → tDS X.K F D σ H → wpAny (model X.prog X.w) X.A (exec st X.env) (SP X [] D) X.xe s
@[irreducible] noncomputable def PSs0 (X : Cx) (sts : List Stmt) (F : Rho → Option Out) : Prop := ∀ (s : Shared) (σ : St) (H : Hp) (D : Ends), Inv X [] σ H s → tDS X.K F D σ H → wpAny (model X.prog X.w) X.A (execs sts X.env) (SP X [] D) X.xe s
section
variable {X : Cx} {st : Stmt} {sts rest tb hb : List Stmt} {F G : Rho → Option Out} {pos : Pos}
theorem pss0_of (h : PSsD X sts F) : PSs0 X sts F := by
  with_unfolding_all
   exact fun s σ H D I t => h [] s σ H D I t
theorem pss0_cons (h1 : PS0 X st F) (h2 : PSs0 X rest G) : PSs0 X (st :: rest) (seqS F G) := by
  with_unfolding_all
   intro s σ H D I ⟨ρ, o, en, q, k⟩
   cases hF : F ρ with
   | none => simp [seqS, hF] at q
   | some o1 =>
     cases o1 with
     | nx ρ1 =>
       have q' : G ρ1 = some o := by simpa [seqS, hF] using q
       refine wpAny_execs_cons (thn (h1 s σ H { D with nx := fun σ' H' => Same H H' ∧ EnvR X.K H' ρ1 σ' } I ⟨ρ, .nx ρ1, en, hF, fun σ' H' s1 e1 => ⟨s1, e1⟩⟩) fun f s1 z => ?_)
       cases f with
       | next =>
         obtain ⟨σ', H', I', sm, e1⟩ := z
         exact h2 s1 σ' H' D I' ⟨ρ1, o, e1, q', k.mono sm⟩
       | brk => exact z
       | cont => exact z
       | ret u => exact z
     | rt d =>
       have q' : Out.rt d = o := by simpa [seqS, hF] using q
       subst q'
       refine wpAny_execs_cons (thn (h1 s σ H { D with nx := fun _ _ => False } I ⟨ρ, .rt d, en, hF, k⟩) fun f s1 z => ?_)
       cases f with
       | next => obtain ⟨_, _, _, z⟩ := z; exact z.elim
       | brk => exact z
       | cont => exact z
       | ret u => exact z
     | bk ρ1 =>
       have q' : Out.bk ρ1 = o := by simpa [seqS, hF] using q
       subst q'
       refine wpAny_execs_cons (thn (h1 s σ H { D with nx := fun _ _ => False } I ⟨ρ, .bk ρ1, en, hF, k⟩) fun f s1 z => ?_)
       cases f with
       | next => obtain ⟨_, _, _, z⟩ := z; exact z.elim
       | brk => exact z
       | cont => exact z
       | ret u => exact z
     | ct ρ1 =>
       have q' : Out.ct ρ1 = o := by simpa [seqS, hF] using q
       subst q'
       refine wpAny_execs_cons (thn (h1 s σ H { D with nx := fun _ _ => False } I ⟨ρ, .ct ρ1, en, hF, k⟩) fun f s1 z => ?_)
       cases f with
       | next => obtain ⟨_, _, _, z⟩ := z; exact z.elim
       | brk => exact z
       | cont => exact z
       | ret u => exact z
end
end BX

end
section
set_option Elab.async false
set_option linter.all false
set_option maxRecDepth 100000
set_option maxHeartbeats 4000000
namespace BX
open PySem PySem.Spec L2
open PyProof.Rows hiding St
section
variable {X : Cx} {st b0 : Stmt} {sts rest tb hb : List Stmt} {F G : Rho → Option Out} {fx : Rho → Option Str} {pos : Pos}
noncomputable def blank (n : Nat) : Rho := List.replicate n none
noncomputable abbrev hX (X : Cx) (e : Addr) : Cx := { X with A := X.A.mark (some (.ref e)), calm := false, xe := fun _ _ => False }
theorem SP.ofA {A : Around} {cm : Bool} {xe : Value → Shared → Prop} {D : Ends} {f : Flow} {s' : Shared} (ok : X.Ok) (h : SP { X with A := A, calm := cm, xe := xe } [] D f s') : SP X [] D f s' := by
  cases f with
  | next => obtain ⟨σ', H', I, q⟩ := h; exact ⟨σ', H', Inv.ofA ok I, q⟩
  | brk => obtain ⟨σ', H', I, q⟩ := h; exact ⟨σ', H', Inv.ofA ok I, q⟩
  | cont => obtain ⟨σ', H', I, q⟩ := h; exact ⟨σ', H', Inv.ofA ok I, q⟩
  | ret u => obtain ⟨v, σ', H', I, r, q⟩ := h; exact ⟨v, σ', H', Inv.ofA ok I, r, q⟩
end
section
variable {P : Program} {w : World} {K : PySem.W.Frag} {mg : Str → Option Value} {base : Heap}
theorem fn_pure0 {x qual : Str} {st : Stmt} {f : Addr} {fd : FuncData} {N ps : List Str} {k : Nat} {B : Rho → Option Out} (F : Fun K x qual st f fd) (S : FnScope N ps (defScope st))
    (body : ∀ (cdv : Value) (A : Around) (outer : List Env) (s : Shared) (H : Hp) (E : XK), Room k (A.deeper (envOfC qual (defScope st) s.heap.objs.size f cdv)) → PSs0 (cxOf CX0 P w K mg base N qual (defScope st) f cdv A outer s H E) (defBody st) B) :
    FnOk P w K mg base CX0 (k + 1) f fd ps (Pur K ps.length (bodyD N ps.length B)) := by
  with_unfolding_all
   obtain ⟨oc, od, kV, doc, pm, an, cdv, ct, osl, rfl, lk, hcd⟩ := F.ex
   refine fn_raw lk hcd S (fun vs H Q E h => ?_) fun A outer s H vs Q E s1 hr h I => ?_
   · obtain ⟨ds, d, h1, h2, _⟩ := h
     rw [h2.length]; exact h1
   · obtain ⟨ds, d, h1, h2, h3, h4⟩ := h
     unfold bodyD at h3
     rw [if_pos h1] at h3
     cases hB : B (startR N ds) with
     | none => rw [hB] at h3; cases h3
     | some o =>
       rw [hB] at h3
       refine body cdv A outer s H E hr s1 (L2.start N vs) H _ I ⟨startR N ds, o, env_start h2, hB, ?_⟩
       cases o with
       | rt c => cases h3; exact fun v H' sm r => h4 v H' sm r
       | nx ρ => cases h3; exact fun σ H' sm e => h4 .non H' sm rfl
       | bk ρ => cases h3
       | ct ρ => cases h3
end
end BX

end
section
set_option Elab.async false
set_option linter.all false
set_option maxRecDepth 100000
set_option maxHeartbeats 4000000
namespace BX
open PySem PySem.Spec L2
open PyProof.Rows hiding St
theorem getItem_tup_whole {t sl : Addr} {items : Array Value} {vl vu : Value} {lo hi : Option Int} {Q : Value → Shared → Prop} (ht : IsTup s.heap t items) (hs : s.heap.IsSliceOf sl vl vu .none) (pl : IsPart vl lo) (pu : IsPart vu hi)
    (hw : HT.sIx items.size 0 lo = 0 ∧ HT.sIx items.size items.size hi = items.size) (h : Q (.ref t) s) : wpAny (model prog w) A (getItem (.ref t) (.ref sl)) Q E s := by
  obtain ⟨os, hos, hcs, hds⟩ := id hs
  have hTs : s.TypeIs (.ref sl) "slice" := ⟨os, hos, hcs⟩
  unfold getItem
  first | (with_reducible refine wpAny_holding ?_) | skip
  first | refine wpAny_bind (wpAny_pure ?_) | skip
  refine wpAny_bind (wpAny_sequenceKey ht.typeIs (by decide) ?_)
  refine wpAny_bind (wpAny_callSpecial?_slot (name := Str.ofString "__getitem__") ht.typeIs PyProof.Rows.slot_tuple_getitem (wpAny_call_entry PyProof.Rows.slot_tuple_getitem ht.typeIs entry_tuple_getitem ?_ (args_tuple_getitem _ _)))
  show wpAny _ _ (Builtin.Tuple.tupleItemsOf (.ref t) >>= _) _ _ s
  refine wpAny_bind (tupleItemsOf_ ht (wpAny_bind (wpAny_typeOf hTs ?_)))
  rw [if_pos (show (Value.type "slice" == Value.type "slice") = true by decide)]
  refine wpAny_bind (HT.sliceApplied_gen hs pl pu ?_)
  rw [hw.1, hw.2]
  have hyes : ((((0 : Nat) : Int) == 0 && (1 : Int) == 1 && (items.size - 0) == items.size) = true) := by simp
  show wpAny _ _ (if ((((0 : Nat) : Int) == 0 && (1 : Int) == 1 && (items.size - 0) == items.size) = true) then _ else _) _ _ s
  rw [if_pos hyes]
  obtain ⟨o, ho, hc, hd⟩ := id ht
  have hT : s.TypeIs (.ref t) "tuple" := ⟨o, ho, hc⟩
  have ex : ∀ {R : Bool → Shared → Prop} {A' : Around} {E' : Value → Shared → Prop}, R true s → wpAny (model prog w) A' (Builtin.Tuple.tupleIsExact (.ref t)) R E' s := fun {R A' E'} hR => by
    unfold Builtin.Tuple.tupleIsExact
    first
      | exact wpAny_bind (wpAny_typeOf hT (wpAny_pure hR))
      | (wp_walk; exact hR)
  first
    | exact wpAny_bind (ex (wpAny_bind (wpAny_rule (wpAny_pure ⟨_, rfl, wpAny_pure h⟩))))
    | exact wpAny_bind (ex (by rw [if_pos rfl]; exact wpAny_bind (wpAny_rule (wpAny_pure ⟨_, rfl, wpAny_pure h⟩))))
    | (refine wpAny_bind (ex ?_); wp_walk; exact ⟨_, rfl, wpAny_pure h⟩)
    | (refine wpAny_bind (wpAny_bind (ex ?_)); wp_walk; exact ⟨_, rfl, wpAny_pure h⟩)
section
variable {X : Cx} {e a b c : Expr} {fa fb fc : Rho → Option PyData} {pos p2 : Pos}
noncomputable def rSlW (K : PySem.W.Frag) : V → Option Int → Option Int → Hp → VK → Prop := fun x lo hi H Q => ∃ a xs, x = .ref a ∧ SqT K H a xs ∧ (HT.sIx xs.length 0 lo = 0 ∧ HT.sIx xs.length xs.length hi = xs.length) ∧ Q (.ref a) H
theorem sl_whole : SlR X (rSlW X.K) := by
  intro pins s σ H x v vl vu lo hi sl Q I rx hs pl pu h
  obtain ⟨a, xs, rfl, hx, hw, q⟩ := h
  cases rx
  obtain ⟨its, r, ht, hz⟩ := I.tuple hx
  have hlen : its.toArray.size = xs.length := by rw [List.size_toArray]; exact r.length.symm
  exact ⟨"tuple", _, PyProof.Rows.slot_tuple_getitem.lookup, ht.typeIs, getItem_tup_whole ht hs pl pu (by rw [hlen]; exact hw) ⟨.ref a, H, I, rfl, q⟩⟩
noncomputable def dSlA (p : PyData) (lo hi : Option Int) : Option PyData := match p with
  | .tuple ds => some (.tuple (cutT ds lo hi))
  | _ => none
theorem dSlA_r {K : PySem.W.Frag} {p d : PyData} {lo hi : Option Int} {x : V} {H : Hp} {Q : VK} (h : dSlA p lo hi = some d) (r : Rep K H p x) (k : ∀ v H', Same H H' → Rep K H' d v → Q v H') : rSlT K x lo hi H Q ∨ rSlW K x lo hi H Q := by
  unfold dSlA at h
  split at h
  · rename_i ds
    cases h
    obtain ⟨a, xs, e1, e2, e3⟩ := r
    have hl := e3.length
    have rr : Reps K H (cutT ds lo hi) (cutV xs lo hi) := by
      unfold cutV cutT
      rw [hl]
      exact (e3.drop _).take _
    by_cases hw : HT.sIx xs.length 0 lo = 0 ∧ HT.sIx xs.length xs.length hi = xs.length
    · refine .inr ⟨a, xs, e1, e2, hw, k _ H (Same.refl H) ⟨a, xs, rfl, e2, ?_⟩⟩
      have ex : cutV xs lo hi = xs := by unfold cutV; rw [hw.1, hw.2]; simp
      rw [ex] at rr
      exact rr
    · refine .inl ⟨a, xs, e1, e2, hw, fun q hq => ?_⟩
      have s1 := same_upd (o := .tup (cutV xs lo hi)) hq
      exact k _ _ s1 ⟨q, _, rfl, SqT.of upd_same, Reps.mono s1 _ _ rr⟩
  · cases h
noncomputable def slaTo (fa fb : Rho → Option PyData) : Rho → Option PyData := fun ρ => (fa ρ).bind fun p => (fb ρ).bind fun q => (inI q).bind fun i => dSlA p none (some i)
theorem pd_slaTo (ha : PD X a fa) (hb : PD X b fb) : PD X (.Subscript a (.Slice none (some b) none p2) pos) (slaTo fa fb) := by
  with_unfolding_all
   refine PE.imp (pe_slice (sl_tup.or sl_whole) ha po_none (po_some hb)) fun σ H Q ⟨ρ, d, en, q, k⟩ => ?_
   cases h1 : fa ρ with
   | none => simp [slaTo, h1] at q
   | some y =>
     cases h2 : fb ρ with
     | none => simp [slaTo, h1, h2] at q
     | some z =>
       cases h3 : inI z with
       | none => simp [slaTo, h1, h2, h3] at q
       | some i =>
         have q' : dSlA y none (some i) = some d := by simpa [slaTo, h1, h2, h3] using q
         have hz := inI_some h3
         subst hz
         refine ⟨ρ, y, en, h1, fun v H1 s1 r1 => ⟨ρ, _, en.mono s1, h2, fun u H2 s2 r2 => ?_⟩⟩
         cases (show u = _ from r2)
         exact ⟨i, rfl, dSlA_r q' (Rep.mono s2 _ _ r1) fun v H' s r => k v H' (s1.trans (s2.trans s)) r⟩
noncomputable def slaFrom (fa fb : Rho → Option PyData) : Rho → Option PyData := fun ρ => (fa ρ).bind fun p => (fb ρ).bind fun q => (inI q).bind fun i => dSlA p (some i) none
theorem pd_slaFrom (ha : PD X a fa) (hb : PD X b fb) : PD X (.Subscript a (.Slice (some b) none none p2) pos) (slaFrom fa fb) := by
  with_unfolding_all
   refine PE.imp (pe_slice (sl_tup.or sl_whole) ha (po_some hb) po_none) fun σ H Q ⟨ρ, d, en, q, k⟩ => ?_
   cases h1 : fa ρ with
   | none => simp [slaFrom, h1] at q
   | some y =>
     cases h2 : fb ρ with
     | none => simp [slaFrom, h1, h2] at q
     | some z =>
       cases h3 : inI z with
       | none => simp [slaFrom, h1, h2, h3] at q
       | some i =>
         have q' : dSlA y (some i) none = some d := by simpa [slaFrom, h1, h2, h3] using q
         have hz := inI_some h3
         subst hz
         refine ⟨ρ, y, en, h1, fun v H1 s1 r1 => ⟨ρ, _, en.mono s1, h2, fun u H2 s2 r2 => ?_⟩⟩
         cases (show u = _ from r2)
         exact ⟨i, rfl, dSlA_r q' (Rep.mono s2 _ _ r1) fun v H' s r => k v H' (s1.trans (s2.trans s)) r⟩
end
end BX

end
section
set_option Elab.async false
set_option linter.all false
set_option maxRecDepth 100000
set_option maxHeartbeats 4000000
namespace BX
open PySem PySem.Spec L2
open PyProof.Rows hiding St
section
variable {X : Cx}
theorem kit_isiL {K : PySem.W.Frag} {T : String} (hT : T = "list") (d : PyData) : PySem.W.kitOne K (.type (tyn d)) (.type T) = some (isiB T d) := by
  subst hT
  cases d <;> first | rfl | (rename_i kvs; by_cases h : isScr kvs = true <;> simp only [tyn, isiB, h] <;> rfl)
theorem pd_isiL {a : Expr} {fa : Rho → Option PyData} {T : Str} {Tn : String} {p p2 pos : Pos} (hT : Tn = "list") (hm1 : X.mg "isinstance" = none) (hm2 : X.mg T = none) (hv : bootBuiltins T = some (.type Tn)) (ha : PD X a fa)
    (hg1 : Gl X "isinstance" := by rfl) (hg2 : Gl X T := by rfl) (hn : T ≠ "__name__" := by decide) (hd : (T == ("__debug__" : Str)) = false := by decide)
    (he : starEach [a, .Name T p2] X.env = [(false, eval a X.env), (false, eval (.Name T p2) X.env)] := by rfl) (he2 : starEach [.Name T p2] X.env = [(false, eval (.Name T p2) X.env)] := by rfl) (hpl : (backTo pos (starEach [.Name T p2] X.env)).any (·.1) = false := by rfl) :
    PD X (.Call (.Name "isinstance" p) [a, .Name T p2] [] pos) (fun ρ => (fa ρ).bind fun d => isiO Tn d) := by
  with_unfolding_all
   have hT2 : PE X (.Name T p2) (tC (.ty Tn)) := pe_bltn hg2 hm2 hv rfl hn hd
   refine PE.imp (pe_callB (call_isi (T := Tn)) hg1 hm1 (by decide +kernel) (pa_cons ha (pa_cons hT2 pa_nil (by rw [he2]; rfl)) (by rw [he, he2])) (by decide) (by decide) (by rw [he, he2]) hpl) fun σ H Q ⟨ρ, d, en, q, k⟩ => ?_
   cases h1 : fa ρ with
   | none => simp [h1] at q
   | some c =>
     obtain ⟨hF, rfl⟩ := isiO_out (show isiO Tn c = some d by simpa [h1] using q)
     exact ⟨ρ, c, en, h1, fun v H1 s1 r1 => ⟨v, c, _, rfl, r1, hF, kit_isiL hT c, k _ H1 s1 rfl⟩⟩
end
end BX

end
section
set_option Elab.async false
set_option linter.all false
set_option maxRecDepth 100000
set_option maxHeartbeats 4000000
namespace BX
open PySem PySem.Spec L2
open PyProof.Rows hiding St
section
variable {X : Cx}
end
end BX

end
section
set_option Elab.async false
set_option linter.all false
set_option maxRecDepth 100000
set_option maxHeartbeats 4000000
namespace BX
open PySem PySem.Spec L2
open PyProof.Rows hiding St
section
variable {X : Cx} {e a b c : Expr} {fa fb fc : Rho → Option PyData} {pos p2 : Pos}
noncomputable def sllTo (fa fb : Rho → Option PyData) : Rho → Option PyData := fun ρ => (fa ρ).bind fun p => (fb ρ).bind fun q => (inI q).bind fun i => dSlL p none (some i)
theorem pd_sllTo (ha : PD X a fa) (hb : PD X b fb) : PD X (.Subscript a (.Slice none (some b) none p2) pos) (sllTo fa fb) := by
  with_unfolding_all
   refine PE.imp (pe_slice sl_list ha po_none (po_some hb)) fun σ H Q ⟨ρ, d, en, q, k⟩ => ?_
   cases h1 : fa ρ with
   | none => simp [sllTo, h1] at q
   | some y =>
     cases h2 : fb ρ with
     | none => simp [sllTo, h1, h2] at q
     | some z =>
       cases h3 : inI z with
       | none => simp [sllTo, h1, h2, h3] at q
       | some i =>
         have q' : dSlL y none (some i) = some d := by simpa [sllTo, h1, h2, h3] using q
         have hz := inI_some h3
         subst hz
         refine ⟨ρ, y, en, h1, fun v H1 s1 r1 => ⟨ρ, _, en.mono s1, h2, fun u H2 s2 r2 => ?_⟩⟩
         cases (show u = _ from r2)
         unfold dSlL at q'
         split at q'
         · rename_i ds
           cases q'
           obtain ⟨l, xs, e1, e2, e3⟩ := Rep.mono s2 _ _ r1
           have hl := e3.length
           refine ⟨i, rfl, l, xs, e1, SqL.of e2, fun p hp => ?_⟩
           have s3 := same_upd (o := .lst (cutV xs none (some i))) hp
           have rr : Reps X.K H2 (cutT ds none (some i)) (cutV xs none (some i)) := by
             unfold cutV cutT
             rw [hl]
             exact (e3.drop _).take _
           exact k _ _ (s1.trans (s2.trans s3)) ⟨p, _, rfl, upd_same, Reps.mono s3 _ _ rr⟩
         · cases q'
end
end BX

end
section
set_option Elab.async false
set_option linter.all false
set_option maxRecDepth 100000
set_option maxHeartbeats 4000000
namespace BX
open PySem PySem.Spec L2
open PyProof.Rows hiding St
section
variable {X : Cx}
end
end BX

end
section
set_option Elab.async false
set_option linter.all false
set_option maxRecDepth 100000
set_option maxHeartbeats 4000000
namespace BX
open PySem PySem.Spec L2
open PyProof.Rows hiding St
section
variable {X : Cx} {e : Expr} {es : List Expr} {pos p : Pos}
noncomputable def isFnD (x : Str) : PyData → Bool
  | .dict [(.str y, .none)] => decide (y = x)
  | _ => false
theorem isFnD_eq {x : Str} {d : PyData} (h : isFnD x d = true) : d = fnD x := by
  unfold isFnD at h
  split at h
  · rw [of_decide_eq_true h]; rfl
  · cases h
@[simp] theorem isFnD_self (x : Str) : isFnD x (fnD x) = true := by simp [isFnD, fnD]
theorem rep_fnD {K : PySem.W.Frag} {H : Hp} {x : Str} {v : V} (h : Rep K H (fnD x) v) : ∃ a, v = .ref a ∧ PySem.W.nsIn K mainGlobals x = some (some (.ref a)) := by
  obtain ⟨a, h1, ⟨ns, h2, h3⟩ | ⟨ks, ob, h2, h3⟩ | ⟨y, h2, h3⟩ | ⟨y, _, _, h2, _⟩⟩ := h
  · cases ns with
    | nil => cases h3
    | cons n ns => cases h3
  · exact h3.elim
  · cases h2
    exact ⟨a, h1, h3⟩
  · cases h2
end
end BX

end
section
set_option Elab.async false
set_option linter.all false
set_option maxRecDepth 100000
set_option maxHeartbeats 4000000
namespace BX
open PySem PySem.Spec L2
open PyProof.Rows hiding St
section
variable {X : Cx} {e a b c : Expr} {es : List Expr} {fa : Rho → Option PyData} {fx gx : Rho → Option Str} {pos : Pos}
end
end BX

end
section
set_option Elab.async false
set_option linter.all false
set_option maxRecDepth 100000
set_option maxHeartbeats 4000000
namespace BX
open PySem PySem.Spec L2
open PyProof.Rows hiding St
@[irreducible] noncomputable def PSOX (X : Cx) (own : Option Nat) (st : Stmt) (fx : Rho → Option Str) : Prop := ∀ (s : Shared) (σ : St) (H Hs : Hp) (ρ : Rho) (c : Str), Inv X [] σ H s → EnvO X.prog X.w X.K Hs H own ρ σ → fx ρ = some c → (∀ ev s', Thr X Hs c ev s' → X.xe ev s') → wpAny (model X.prog X.w) X.A (exec st X.env) (fun _ _ => False) X.xe s
@[irreducible] noncomputable def PSsOX (X : Cx) (own : Option Nat) (sts : List Stmt) (fx : Rho → Option Str) : Prop := ∀ (s : Shared) (σ : St) (H Hs : Hp) (ρ : Rho) (c : Str), Inv X [] σ H s → EnvO X.prog X.w X.K Hs H own ρ σ → fx ρ = some c → (∀ ev s', Thr X Hs c ev s' → X.xe ev s') → wpAny (model X.prog X.w) X.A (execs sts X.env) (fun _ _ => False) X.xe s
section
variable {X : Cx} {own : Option Nat} {e a b c tg src : Expr} {es : List Expr} {st : Stmt} {sts rest body : List Stmt} {fx gx : Rho → Option Str} {F : Rho → Option Out} {fa : Rho → Option PyData} {pos : Pos}
theorem Thr.unwish {W : Value → Shared → Prop} {Hb Hs : Hp} {c : Str} {ev : Value} {s' : Shared} (sb : ∀ H3, Same Hb H3 → Same Hs H3) (h : Thr (X.wish W) Hb c ev s') : Thr X Hs c ev s' := by
  obtain ⟨e, C, σ', H', h1, h2, h3, h4, h5⟩ := h
  exact ⟨e, C, σ', H', h1, h2, h3.unwish, sb _ h4, h5.unwish⟩
noncomputable def loopX (ga : PyData → Rho → Option Rho) (F : Rho → Option Out) (fx : Rho → Option Str) : List PyData → Rho → Option Str
  | [], _ => none
  | d :: r, ρ => (ga d ρ).bind fun ρ1 => match F ρ1 with
    | some (.nx ρ2) => loopX ga F fx r ρ2
    | some _ => none
    | none => fx ρ1
noncomputable def forX (fi : Rho → Option (List PyData)) (ga : PyData → Rho → Option Rho) (F : Rho → Option Out) (fx : Rho → Option Str) : Rho → Option Str := fun ρ => (fi ρ).bind fun ds => loopX ga F fx ds ρ
theorem psox_for {fi : Rho → Option (List PyData)} {ga : PyData → Rho → Option Rho} (T0 : Top0 X) (hc : X.calm = true) (hi : ∀ W, PID (X.wish W) tg src fi) (hg : ∀ W, PGO (X.wish W) own tg ga) (hb : ∀ W, PSsO (X.wish W) own body F) (hx : ∀ W, PSsOX (X.wish W) own body fx)
    (hs : ∀ x, foldedSetIterable src X.env x = pure x := by intro _; rfl) : PSOX X own (.For tg src body [] pos) (forX (fun ρ => fi (hid own ρ)) ga F fx) := by
  with_unfolding_all
   intro s σ H Hs ρ c I E q k
   cases h1 : fi (hid own ρ) with
   | none => simp [forX, h1] at q
   | some ds =>
     have q' : loopX ga F fx ds ρ = some c := by simpa [forX, h1] using q
     let W : Value → Shared → Prop := fun ev s' => Thr X Hs c ev s'
     have hp : PassesOwn (model X.prog X.w) X.A X.env W := passes (X := X) T0 I.ok.frames fun ev s' t => by
       obtain ⟨e, C, σ', H', h1, h2, h3, h4, h5⟩ := t
       exact ⟨e, C, σ', H', h1, h3, h5, fun s'' J xt => ⟨e, C, σ', H', h1, h2, J, h4, xt.c⟩⟩
     have hb' : PSs (X.wish W) body (fun D σ H => (∃ Hs ρ o, EnvO X.prog X.w X.K Hs H own ρ σ ∧ F ρ = some o ∧ (match o with
         | .nx ρ' => ∀ σ' H', EnvO X.prog X.w X.K Hs H' own ρ' σ' → D.nx σ' H'
         | _ => False)) ∨ ∃ Hs ρ c, EnvO X.prog X.w X.K Hs H own ρ σ ∧ fx ρ = some c ∧ ∀ ev s', Thr (X.wish W) Hs c ev s' → W ev s') := by
       intro pins s σ H D I h
       rcases h with ⟨Hs, ρ, o, E, q, k⟩ | ⟨Hs, ρ, c, E, q, k⟩
       · cases o with
         | nx ρ' => exact hb W pins s σ H D I ⟨Hs, ρ, .nx ρ', E, q, k⟩
         | _ => exact k.elim
       · exact wpAny_mono (hx W s σ H Hs ρ c (I.pins_of fun p hp => nomatch hp) E q k) (fun _ _ z => z.elim) fun _ _ z => z
     refine wpAny_mono (ps_for (X := X.wish W) hp hc (hi W) (hg W) hb' hs [] s σ H { nx := fun _ _ => False, rt := fun _ _ => False, bk := fun _ _ => False, ct := fun _ _ => False } (I.wish W)
       ⟨hid own ρ, ds, E.hid, h1, fun J H1 s1 Y => ?_⟩) (fun f s1 z => ?_) fun ev s' z => k ev s' z
     · obtain ⟨Hb, Eb, sE, back, sb⟩ := (E.mono s1).rebase
       refine ⟨fun i m σ H2 => m = ds.length - i ∧ i ≤ ds.length ∧ ∃ ρ2, EnvO X.prog X.w X.K Hb H2 own ρ2 σ ∧ loopX ga F fx (ds.drop i) ρ2 = some c, ⟨ds.length, by simp, Nat.zero_le _, ρ, Eb, by simpa using q'⟩, ?_⟩
       rintro i m σ2 H2 ⟨rfl, hi, ρ2, en2, q2⟩
       obtain ⟨g1, g2, g3⟩ := Y i H2 (sE H2 en2.sm)
       by_cases hlt : i < ds.length
       · right
         have hd : ds.drop i = ds[i] :: ds.drop (i + 1) := List.drop_eq_getElem_cons hlt
         rw [hd] at q2
         refine ⟨g1 hlt, fun σ3 H3 => ∃ ρ3, EnvO X.prog X.w X.K Hb H3 own ρ3 σ3 ∧ loopX ga F fx (ds.drop (i + 1)) ρ3 = some c, fun σ3 H3 ⟨ρ3, a2, a3⟩ => ⟨ds.length - (i + 1), by omega, rfl, hlt, ρ3, a2, a3⟩, fun x H3 y => ?_⟩
         obtain ⟨s3, r3⟩ := g3 x H3 y
         have r3' := r3 ds[i] (by simp [hlt])
         cases h4 : ga ds[i] ρ2 with
         | none => simp [loopX, h4] at q2
         | some ρ4 =>
           refine ⟨Hb, ρ2, ds[i], ρ4, en2.mono s3, r3', h4, fun σ5 H5 en5 => ?_⟩
           cases h5 : F ρ4 with
           | none =>
             have q3 : fx ρ4 = some c := by simpa [loopX, h4, h5] using q2
             exact .inr ⟨Hb, ρ4, c, en5, q3, fun ev s' t => Thr.unwish sb t⟩
           | some p =>
             cases p with
             | nx ρ6 => exact .inl ⟨Hb, ρ4, .nx ρ6, en5, h5, fun σ6 H6 en6 => ⟨ρ6, en6, by simpa [loopX, h4, h5] using q2⟩⟩
             | _ => simp [loopX, h4, h5] at q2
       · exfalso
         have he : i = ds.length := by omega
         have hn : ds.drop i = [] := by rw [he]; simp
         rw [hn] at q2
         cases q2
     · cases f with
       | next => obtain ⟨_, _, _, z⟩ := z; exact z.elim
       | brk => obtain ⟨_, _, _, z⟩ := z; exact z.elim
       | cont => obtain ⟨_, _, _, z⟩ := z; exact z.elim
       | ret u => obtain ⟨_, _, _, _, _, z⟩ := z; exact z.elim
end
end BX

end
section
set_option Elab.async false
set_option linter.all false
set_option maxRecDepth 100000
set_option maxHeartbeats 4000000
namespace BX
open PySem PySem.Spec L2
open PyProof.Rows hiding St
section
variable {X : Cx} {e a b c : Expr} {es : List Expr} {st : Stmt} {sts rest : List Stmt} {fx gx : Rho → Option Str} {F : Rho → Option Out} {pos p : Pos}
noncomputable def orX (fx gx : Rho → Option Str) : Rho → Option Str := fun ρ => match fx ρ with
  | some c => some c
  | none => gx ρ
theorem pssx_or (h1 : PSsX X sts fx) (h2 : PSsX X sts gx) : PSsX X sts (orX fx gx) := by
  with_unfolding_all
   intro s σ H ρ c I en q k
   cases hf : fx ρ with
   | some c' =>
     have : c' = c := by simpa [orX, hf] using q
     subst this
     exact h1 s σ H ρ c' I en hf k
   | none => exact h2 s σ H ρ c I en (by simpa [orX, hf] using q) k
end
end BX

end
section
set_option Elab.async false
set_option linter.all false
set_option maxRecDepth 100000
set_option maxHeartbeats 4000000
namespace BX
open PySem PySem.Spec L2
open PyProof.Rows hiding St
section
variable {X : Cx} {a b c : Expr} {tc ta tb : Rho → Option Bool} {pos : Pos}
end
end BX

end
section
set_option Elab.async false
set_option linter.all false
set_option maxRecDepth 100000
set_option maxHeartbeats 4000000
namespace BX
open PySem PySem.Spec L2
open PyProof.Rows hiding St
section
variable {X : Cx} {a b : Expr} {fa fb : Rho → Option PyData}
theorem vals_bls : ∀ {is : List Bool} {us : List Value}, Vals (is.map V.bl) us → us = is.map Value.bool
  | [], us, r => by cases r; rfl
  | i0 :: is, u :: us, .cons r rr => by
    rw [List.map_cons, ← vals_bls rr, show u = Value.bool i0 from r]
noncomputable def isBl (k : Bool) : Value → Bool
  | .bool i => i == k
  | _ => false
noncomputable def rIndexB : V → List V → Hp → VK → Prop := fun x vs H Q => ∃ (l : Addr) (is : List Bool) (k : Bool) (j : Nat), x = .ref l ∧ vs = [.bl k] ∧ H l = some (.lst (is.map V.bl)) ∧ is.findIdx? (· == k) = some j ∧ Q (.int j) H
noncomputable def rCountB : V → List V → Hp → VK → Prop := fun x vs H Q => ∃ (l : Addr) (is : List Bool) (k : Bool), x = .ref l ∧ vs = [.bl k] ∧ H l = some (.lst (is.map V.bl)) ∧ Q (.int (is.countP (· == k))) H
theorem mt_indexB : MtR X "list.index" rIndexB := by
  intro pins s σ H x vs v us Q I rx rv h
  obtain ⟨l, is, k, j, rfl, rfl, hH, hj, q⟩ := h
  cases rx
  obtain ⟨u, rfl, ru⟩ := Vals.one rv
  cases (show u = Value.bool k from ru)
  obtain ⟨z, its, n, r, hl, e⟩ := I.lstM hH
  have hlen := r.length
  simp only [List.length_map] at hlen
  have hits := vals_bls r
  subst hits
  obtain ⟨hj1, hj2, hj3⟩ := List.findIdx?_eq_some_iff_getElem.mp hj
  have hln := line63
  have z' := z
  rw [List.length_map] at z'
  refine call_meets F.slot_list_index ⟨_, e, rfl⟩ F.entry_list_index (F.args_list_index_2 _ _) (SeqAt.list_indexAt l (is.map Value.bool).toArray n none #[] (.bool k) (isBl k) j (by simp; omega) ?_ ?_ ?_) ⟨e, ?_, ?_⟩
  · omega
  · simp [isBl]; exact beq_iff_eq.mp hj2
  · intro m hm hmj
    simp [isBl]
    have := hj3 m hmj
    exact fun z => this (by rw [z]; exact beq_self_eq_true k)
  · intro y hy
    have hy' : y ∈ is.map Value.bool := by simpa using hy
    obtain ⟨i, _, rfl⟩ := List.mem_map.mp hy'
    exact SeqAt.EqAt.bool_bool _ _
  · exact ⟨.int j, H, I.tok _, ⟨_, rfl⟩, q⟩
theorem mt_countB : MtR X "list.count" rCountB := by
  intro pins s σ H x vs v us Q I rx rv h
  obtain ⟨l, is, k, rfl, rfl, hH, q⟩ := h
  cases rx
  obtain ⟨u, rfl, ru⟩ := Vals.one rv
  cases (show u = Value.bool k from ru)
  obtain ⟨z, its, n, r, hl, e⟩ := I.lstM hH
  have hits := vals_bls r
  subst hits
  have hc : ((is.map Value.bool).toArray.toList.countP (isBl k)) = is.countP (· == k) := by
    show (is.map Value.bool).countP (isBl k) = _
    rw [List.countP_map]; rfl
  refine call_meets F.slot_list_count ⟨_, e, rfl⟩ F.entry_list_count (F.args_list_count_2 _ _) (SeqAt.list_countAt l (is.map Value.bool).toArray n none #[] (.bool k) (isBl k)) ⟨e, ?_, ?_⟩
  · intro y hy
    have hy' : y ∈ is.map Value.bool := by simpa using hy
    obtain ⟨i, _, rfl⟩ := List.mem_map.mp hy'
    exact SeqAt.EqAt.bool_bool _ _
  · exact ⟨.int (is.countP (· == k)), H, I.tok _, ⟨_, by rw [← hc]⟩, q⟩
noncomputable def allB : List PyData → Option (List Bool)
  | [] => some []
  | .bool i :: r => (allB r).map (i :: ·)
  | _ => none
theorem allB_r {K : PySem.W.Frag} {H : Hp} : ∀ {ds : List PyData} {is : List Bool} {xs : List V}, allB ds = some is → Reps K H ds xs → xs = is.map V.bl
  | [], is, xs, h, r => by cases h; exact r
  | d :: ds, is, xs, h, r => by
    obtain ⟨x, ys, e1, e2, e3⟩ := r
    cases d with
    | bool i =>
      simp only [allB, Option.map_eq_some_iff] at h
      obtain ⟨js, h1, h2⟩ := h
      subst h2
      cases (show x = _ from e2)
      rw [e1, allB_r h1 e3]; rfl
    | _ => simp [allB] at h
noncomputable def dIndexB (p q : PyData) : Option PyData := match p, q with
  | .list ds, .bool k => (allB ds).bind fun is => (is.findIdx? (· == k)).map fun (j : Nat) => PyData.int j
  | _, _ => none
noncomputable def dCountB (p q : PyData) : Option PyData := match p, q with
  | .list ds, .bool k => (allB ds).map fun is => PyData.int (is.countP (· == k))
  | _, _ => none
theorem pd_indexB {apos cpos : Pos} (ha : PD X a fa) (hb : PD X b fb) (hbase : attributeBase a "index" X.env (eval a X.env) = eval a X.env := by rfl)
    (hfew : ((backTo cpos (starEach [b] X.env)).all (fun x => !x.1) && (backToKw cpos (keywordEach [] X.env)).all (fun x => x.1.isSome) && decide ([b].length + ([] : List Keyword).length + (if ([] : List Keyword).isEmpty then 0 else 1) < 30)) = true := by rfl)
    (hline : (apos.endLine == cpos.line) = true := by rfl) (hs : starEach [b] X.env = (false, eval b X.env) :: starEach [] X.env := by rfl) (hplain : (backTo cpos (starEach [] X.env)).any (fun x => x.1) = false := by rfl) :
    PD X (.Call (.Attribute a "index" apos) [b] [] cpos) (op2 dIndexB fa fb) := by
  with_unfolding_all
   refine PE.imp (pe_bm PySem.F.plainAttrs_list PySem.F.slot_list_index PySem.F.type_list_index mt_indexB ha (pa_cons hb pa_nil hs) hbase hfew hline hs hplain) fun σ H Q ⟨ρ, d, en, h, k⟩ => ?_
   cases h1 : fa ρ with
   | none => simp [op2, h1] at h
   | some p =>
     cases h2 : fb ρ with
     | none => simp [op2, h1, h2] at h
     | some q =>
       have h' : dIndexB p q = some d := by simpa [op2, h1, h2] using h
       unfold dIndexB at h'
       split at h'
       · rename_i ds n
         cases h3 : allB ds with
         | none => simp [h3] at h'
         | some is =>
           cases h4 : is.findIdx? (· == n) with
           | none => simp [h3, h4] at h'
           | some j =>
             simp only [h3, h4, Option.bind_some, Option.map_some, Option.some.injEq] at h'
             subst h'
             refine ⟨ρ, _, en, h1, fun v H1 s1 r1 => ?_⟩
             obtain ⟨l, xs, e1, e2, e3⟩ := r1
             subst e1
             refine ⟨.inl ⟨rfl, xs, SqL.of e2⟩, ρ, _, en.mono s1, h2, fun y H2 s2 r2 => ?_⟩
             cases (show y = V.bl n from r2)
             refine ⟨l, is, n, j, rfl, rfl, ?_, h4, k _ H2 (s1.trans s2) rfl⟩
             rw [← allB_r h3 e3]
             exact s2 _ _ e2
       · cases h'
theorem pd_countB {apos cpos : Pos} (ha : PD X a fa) (hb : PD X b fb) (hbase : attributeBase a "count" X.env (eval a X.env) = eval a X.env := by rfl)
    (hfew : ((backTo cpos (starEach [b] X.env)).all (fun x => !x.1) && (backToKw cpos (keywordEach [] X.env)).all (fun x => x.1.isSome) && decide ([b].length + ([] : List Keyword).length + (if ([] : List Keyword).isEmpty then 0 else 1) < 30)) = true := by rfl)
    (hline : (apos.endLine == cpos.line) = true := by rfl) (hs : starEach [b] X.env = (false, eval b X.env) :: starEach [] X.env := by rfl) (hplain : (backTo cpos (starEach [] X.env)).any (fun x => x.1) = false := by rfl) :
    PD X (.Call (.Attribute a "count" apos) [b] [] cpos) (op2 dCountB fa fb) := by
  with_unfolding_all
   refine PE.imp (pe_bm PySem.F.plainAttrs_list PySem.F.slot_list_count PySem.F.type_list_count mt_countB ha (pa_cons hb pa_nil hs) hbase hfew hline hs hplain) fun σ H Q ⟨ρ, d, en, h, k⟩ => ?_
   cases h1 : fa ρ with
   | none => simp [op2, h1] at h
   | some p =>
     cases h2 : fb ρ with
     | none => simp [op2, h1, h2] at h
     | some q =>
       have h' : dCountB p q = some d := by simpa [op2, h1, h2] using h
       unfold dCountB at h'
       split at h'
       · rename_i ds n
         cases h3 : allB ds with
         | none => simp [h3] at h'
         | some is =>
           simp only [h3, Option.map_some, Option.some.injEq] at h'
           subst h'
           refine ⟨ρ, _, en, h1, fun v H1 s1 r1 => ?_⟩
           obtain ⟨l, xs, e1, e2, e3⟩ := r1
           subst e1
           refine ⟨.inl ⟨rfl, xs, SqL.of e2⟩, ρ, _, en.mono s1, h2, fun y H2 s2 r2 => ?_⟩
           cases (show y = V.bl n from r2)
           refine ⟨l, is, n, rfl, rfl, ?_, k _ H2 (s1.trans s2) rfl⟩
           rw [← allB_r h3 e3]
           exact s2 _ _ e2
       · cases h'
end
end BX

end
section
set_option Elab.async false
set_option linter.all false
set_option maxRecDepth 100000
set_option maxHeartbeats 4000000
namespace BX
open PySem PySem.Spec L2
open PyProof.Rows hiding St
structure RoomH (k : Nat) (A : Around) : Prop where
  dp : A.depth + 3 * k + 5 < recursionLimit
  un : A.units + 16 * k + 200 < cLine
theorem RoomH.deeper {k : Nat} {A : Around} (r : RoomH (k + 1) A) (env : Env) : RoomH k (A.deeper env) :=
  ⟨by have := r.dp; show A.depth + 1 + 3 * k + 5 < _; omega, by have := r.un; show A.units + 3 + 16 * k + 200 < _; omega⟩
theorem Room.h {k : Nat} {A : Around} (r : Room k A) : RoomH k A := ⟨r.dp, r.un⟩
theorem RoomH.mark {k : Nat} {A : Around} {v : Option Value} (r : RoomH k A) : RoomH k (A.mark v) := ⟨r.dp, r.un⟩
structure FnH (P : Program) (w : World) (K : PySem.W.Frag) (mg : Str → Option Value) (base : Heap) (k : Nat) (f : Addr) (fd : FuncData) (ps : List Str) (sp : Sp) : Prop where
  len : ∀ vs H Q E, sp vs H Q E → vs.length = ps.length
  run : ∀ (A : Around) (outer : List Env) (s : Shared) (H : Hp) (args : Args) (us : List Value) (vs : List V) (Q : VK) (E : XK), RoomH k A → Env0 P w K mg base A outer s H → BindsTo s fd args (ps.zip us) → Vals vs us → sp vs H Q E →
    codeAny (model P w) A (.call (.ref f) args) (CR CX0 outer P w H s Q E) s
noncomputable abbrev cxH (P : Program) (w : World) (K : PySem.W.Frag) (mg : Str → Option Value) (base : Heap) (N : List Str) (qual : Str) (scope : Scope) (f : Addr) (cd : Value) (A : Around) (outer : List Env) (s : Shared) (H : Hp) (E : XK) : Cx :=
  { cxOf CX0 P w K mg base N qual scope f cd { A with handled := none } outer s H E with A := A.deeper (envOfC qual scope s.heap.objs.size f cd), calm := false, xe := fun _ _ => False }
noncomputable def CalleeH (P : Program) (w : World) (K : PySem.W.Frag) (mg : Str → Option Value) (base : Heap) (x : Str) (ps : List Str) (k n : Nat) (g : List PyData → Option PyData) : Prop :=
  ∃ (f : Addr) (fd : FuncData), FnH P w K mg base k f fd ps (Pur K n g) ∧ mg x = some (.ref f) ∧ PySem.W.keepIn K (.ref f) = true ∧ Binds K fd ps []
section
variable {P : Program} {w : World} {K : PySem.W.Frag} {mg : Str → Option Value} {base : Heap}
theorem fn_h {x qual : Str} {st : Stmt} {f : Addr} {fd : FuncData} {N ps : List Str} {k : Nat} {B : Rho → Option Out} (F : Fun K x qual st f fd) (S : FnScope N ps (defScope st))
    (body : ∀ (cdv : Value) (A : Around) (outer : List Env) (s : Shared) (H : Hp) (E : XK), RoomH k (A.deeper (envOfC qual (defScope st) s.heap.objs.size f cdv)) → PSsD (cxH P w K mg base N qual (defScope st) f cdv A outer s H E) (defBody st) B) :
    FnH P w K mg base (k + 1) f fd ps (Pur K ps.length (bodyD N ps.length B)) := by
  with_unfolding_all
   obtain ⟨oc, od, kV, doc, pm, an, cdv, ct, osl, rfl, lk, hcd⟩ := F.ex
   have len : ∀ vs H Q E, Pur K ps.length (bodyD N ps.length B) vs H Q E → vs.length = ps.length := fun vs H Q E h => by
     obtain ⟨ds, d, h1, h2, _⟩ := h
     rw [h2.length]; exact h1
   refine ⟨len, fun A outer s H args us vs Q E hr e0 hb r hsp => ?_⟩
   have hl := len _ _ _ _ hsp
   have KX : K.In s.heap := e0.mod.kin.keeps fun b o e => (e0.bs b o e).1
   have lim : s.heap.NoLimit := e0.mod.nolimit.keeps fun b o e => (e0.bs b o e).1
   have hkind : ∀ y ∈ ps.zip us, (defScope st).names.lookup y.1 = some .local ∨ ((defScope st).names.lookup y.1 = some .cell ∧ ((cellsFrom (s.heap.objs.size + 1) (defScope st).names []).lookup y.1).isSome = true) := fun ⟨n, v⟩ hy => by
     rcases S.par n (List.of_mem_zip hy).1 with q | q
     · exact .inl q
     · exact .inr ⟨q, PySem.W.cellsFrom_some _ _ _ (.inl q)⟩
   have hdp : A.depth < recursionLimit := by have := hr.dp; omega
   refine codeAny_call_function hdp (KX _ _ lk) rfl S.co S.gen rfl (PySem.W.codeRec_of KX hcd) (hb _ _ _ _ ?_)
   refine wpAny_newFunctionEnv_cells S.kind hkind fun env he s1 x => ?_
   subst he
   refine ⟨lim.keeps x.toInCall.keep, codeAny_func ?_⟩
   have e1 : Env0 P w K mg base { A with handled := none } outer s H := ⟨e0.frames, e0.mod, e0.bs, e0.bsz, e0.funs, e0.frf, e0.hok, e0.bare⟩
   have I0 : Inv (cxOf CX0 P w K mg base N qual (defScope st) f cdv { A with handled := none } outer s H E) [] (L2.start N vs) H s1 := inv_start S rfl e1 hl r x
   have I : Inv (cxH P w K mg base N qual (defScope st) f cdv A outer s H E) [] (L2.start N vs) H s1 := Inv.asA I0 I0.ok.frames (fun z => nomatch z)
   obtain ⟨ds, d, h1, h2, h3, h4⟩ := hsp
   unfold bodyD at h3
   rw [if_pos h1] at h3
   cases hB : B (startR N ds) with
   | none => rw [hB] at h3; cases h3
   | some o =>
     rw [hB] at h3
     have bd := body cdv A outer s H E (hr.deeper _) [] s1 (L2.start N vs) H { nx := fun _ H' => Q .non H', rt := Q } I ⟨startR N ds, o, env_start h2, hB, by
       cases o with
       | rt c => cases h3; exact fun v H' sm r => h4 v H' sm r
       | nx ρ => cases h3; exact fun σ H' sm e => h4 .non H' sm rfl
       | bk ρ => cases h3
       | ct ρ => cases h3⟩
     refine wpAny_mono bd (fun fl s' hs => ?_) fun e s' hs => hs.elim
     have fin : ∀ {σ' : St} {H' : Hp} {v : V} {u : Value}, Inv (cxH P w K mg base N qual (defScope st) f cdv A outer s H E) [] σ' H' s' → RelV v u → Q v H' → CE outer P w H s Q u s' :=
       fun {σ' H' v u} J rv q => ⟨v, H', J.os, J.bare, J.base, J.hok, rv, q⟩
     cases fl with
     | ret u =>
       obtain ⟨v, σ', H', J, rv, q⟩ := hs
       exact fin J rv q
     | next =>
       obtain ⟨σ', H', J, q⟩ := hs
       exact fin (v := V.non) (u := Value.none) J rfl q
     | brk =>
       obtain ⟨_, _, _, q⟩ := hs
       exact False.elim q
     | cont =>
       obtain ⟨_, _, _, q⟩ := hs
       exact False.elim q
end
section
variable {X : Cx} {e : Expr} {es : List Expr} {pos : Pos}
theorem pd_callH {k n : Nat} {ps : List Str} {g : List PyData → Option PyData} {x : Str} {p : Pos} {fr : Rho → Option (List PyData)} (c : CalleeH X.prog X.w X.K X.mg X.base x ps k n g) (hr : RoomH k X.A) (ha : PAD X (e :: es) fr)
    (hl : ∀ (ρ : Rho) (ds : List PyData), fr ρ = some ds → ds.length = n) (hn : (e :: es).length = n := by rfl) (hg : Gl X x := by rfl) (hdb : (x == ("__debug__" : Str)) = false := by decide) (he : starEach (e :: es) X.env = (false, eval e X.env) :: starEach es X.env := by rfl)
    (hpl : (backTo pos (starEach es X.env)).any (·.1) = false := by rfl) : PD X (.Call (.Name x p) (e :: es) [] pos) (calD g fr) := by
  with_unfolding_all
   obtain ⟨f, fd, F, hm, hk, hb⟩ := c
   have run : ∀ {pins : List (Addr × Obj)} {σ : St} {H : Hp} {s : Shared} {Q : VK} {us : List Value} {vs : List V}, Inv X pins σ H s → Vals vs us → Pur X.K n g vs H Q (fun _ _ _ => False) → wpAny (model X.prog X.w) X.A (call (.ref f) us) (EP X pins σ Q) X.xe s := by
     intro pins σ H s Q us vs I r h
     have hl : us.length = ps.length := by rw [← r.length]; exact F.len _ _ _ _ h
     have hb' := hb s us I.kIn (by rw [List.append_nil]; exact hl)
     rw [List.append_nil] at hb'
     refine wpAny_call (codeAny_mono (F.run X.A X.stack s H ⟨us, []⟩ us vs Q (fun _ _ _ => False) hr I.env0 hb' r h) fun r s' hq => ?_)
     cases r with
     | error e => exact (pass0 [] σ H s e s' (I.pins_of fun p hp => nomatch hp) hq : X.xe e s')
     | ok fl =>
       cases fl with
       | ret u => exact I.after hq
       | next => exact False.elim hq
       | brk => exact False.elim hq
       | cont => exact False.elim hq
   have pc : PE X (.Call (.Name x p) (e :: es) [] pos) (tCall (Pur X.K n g) [] (fun _ _ _ => False) (tDA X.K fr)) := by
     intro pins s σ H Q I h
     refine wpAny_Call_Name_kw (ld_glob I hg hm ?_ hdb)
     refine PySem.W.callWith_K (h₀ := X.base) I.ok.mod.kin hk (thn (ha pos pins s σ H _ I h) fun us s1 ⟨vs, H1, I1, r, q⟩ => ⟨I1.kIn, ?_⟩) he hpl
     have q' : Pur X.K n g (vs ++ []) H1 Q (fun _ _ _ => False) := q
     rw [List.append_nil] at q'
     exact run I1 r q'
   refine PE.imp pc fun σ H Q ⟨ρ, d, en, q, k⟩ => ?_
   cases h1 : fr ρ with
   | none => simp [calD, h1] at q
   | some ds =>
     refine ⟨ρ, ds, en, h1, fun vs H1 s1 r1 => ?_⟩
     exact ⟨ds, d, by rw [hl ρ ds h1], by rw [List.append_nil]; exact r1, by simpa [calD, h1] using q, fun v H' s r => k v H' (s1.trans s) r⟩
end
end BX

end
section
set_option Elab.async false
set_option linter.all false
set_option maxRecDepth 100000
set_option maxHeartbeats 4000000
namespace BX
open PySem PySem.Spec L2
open PyProof.Rows hiding St
structure ExcK (K : PySem.W.Frag) (C : Addr) : Prop where
  exc : PySem.W.excIn K C vB "ValueError.__new__" = true
  ga : PySem.W.findIn K (.ref C) "__getattribute__" = some (some (.builtin "BaseException.__getattribute__"))
  gt : PySem.W.findIn K (.ref C) "__getattr__" = some none
  cl : PySem.W.findIn K (.ref C) "__class__" = some (some (.builtin "object.__class__"))
  mo : PySem.W.mroIn K C (.type "object") = some true
  mb : PySem.W.mroIn K C (.type "BaseException") = some true
theorem cls_some {K : PySem.W.Frag} {C : Addr} {t : Value} {b : Bool} (h : PySem.W.mroIn K C t = some b) : (PySem.W.clsIn K C).isSome = true := by
  unfold PySem.W.mroIn at h
  cases hc : PySem.W.clsIn K C with
  | none => rw [hc] at h; cases h
  | some cd => rfl
theorem ExcK.ci {K : PySem.W.Frag} {C : Addr} (h : ExcK K C) : (PySem.W.clsIn K C).isSome = true := cls_some h.mo
structure ClsG (K : PySem.W.Frag) : Prop where
  gt : PySem.W.specialIn K (.builtin "object.__class__") "__get__" = some (some (.builtin "getset_descriptor.__get__"))
  tk : PySem.W.takesIn K (.builtin "object.__class__") = some true
section
variable {prog : Program} {w : World} {A : Around} {E : Value → Shared → Prop} {s : Shared} {K : PySem.W.Frag} {a C : Addr} {oe : Obj}
theorem exc_find (hg : ClsG K) (hc : ExcK K C) : PySem.W.findObj K C none "__class__" = some (.bind (.builtin "getset_descriptor.__get__") (.builtin "object.__class__")) := by
  obtain ⟨cd, h1⟩ := Option.isSome_iff_exists.mp hc.ci
  unfold PySem.W.findObj
  rw [h1, Option.bind_some, hc.cl, Option.bind_some]
  simp [hg.gt, hg.tk]
theorem exc_check {nameV : Value} {Q : Unit → Shared → Prop} (X : K.In s.heap) (hc : ExcK K C) (I : PySem.W.InstAt s.heap a oe C none) (hq : Q () s) : wpAny (model prog w) A (checkBuiltinCall "BaseException.__getattribute__" ⟨[.ref a, nameV], []⟩) Q E s := by
  have hk : builtinKind "BaseException.__getattribute__" = some .slot := by decide +kernel
  have hsplit : splitId "BaseException.__getattribute__" = some ("BaseException", "__getattribute__") := by decide +kernel
  have ha := F.args_bexc_ga (.ref a) nameV
  have L0 := I.type (M := model prog w)
  have L1 := PySem.W.looks_mroIn (M := model prog w) X hc.mb
  obtain ⟨hh, g, d, t, os⟩ := s
  simp only [checkBuiltinCall, hk, hsplit]
  refine wpAny_bind ?_
  unfold isInstance
  repeat (first | with_reducible refine L0.at ?_ | with_reducible refine L1.at ?_ | wp_step)
  exact hq
theorem exc_entry {tk : Tok} {Q : Fin → Shared → Prop} (X : K.In s.heap) (hg : ClsG K) (hc : ExcK K C) (I : PySem.W.InstAt s.heap a oe C none) (hq : Q (.done (.ret (.ref C))) s) :
    wpAny (model prog w) A (Builtin.«object.__getattribute__» ⟨[.ref a, .str "__class__" tk], []⟩) Q E s := by
  have L0 := I.type (M := model prog w)
  have L1 := PySem.W.looks_find (M := model prog w) X I (exc_find hg hc)
  obtain ⟨hh, g, d, t, os⟩ := s
  refine wpAny_bind (wpAny_pure (wpAny_bind (wpAny_pure (wpAny_bind (L0.at (wpAny_bind (L1.at ?_)))))))
  show wpAny _ _ (holding [Value.builtin "object.__class__"] (call (.builtin "getset_descriptor.__get__") [.builtin "object.__class__", .ref a, .ref C]) >>= ret) _ _ _
  refine wpAny_bind (wpAny_holding (wpAny_call (PySem.W.class_get (ox := oe) (od := none) X I hc.mo ?_)))
  exact wpAny_pure hq
theorem exc_get {Q : Option Value → Shared → Prop} (X : K.In s.heap) (hg : ClsG K) (hc : ExcK K C) (I : PySem.W.InstAt s.heap a oe C none) (hq : Q (some (.ref C)) { s with toks := s.toks + 1 }) : wpAny (model prog w) A (getAttr? (.ref a) "__class__") Q E s := by
  have L0 := I.type (M := model prog w)
  have L1 := PySem.W.looks_findIn (M := model prog w) X hc.ga
  have L2 := PySem.W.looks_findIn (M := model prog w) X hc.gt
  obtain ⟨hh, g, d, t, os⟩ := s
  unfold getAttr? getAttrBy? getAttrBy
  refine wpAny_bind (wpAny_mkText (wpAny_bind (wpAny_attempt (wpAny_holding (wpAny_bind (L0.at (wpAny_bind (L1.at ?_))))))))
  have hx2 : (Value.builtin "BaseException.__getattribute__" == Value.builtin "object.__getattribute__") = false := by decide +kernel
  have hx1 : (onTheHeap (Value.ref C) && Value.builtin "BaseException.__getattribute__" == Value.builtin "object.__getattribute__") = false := by rw [hx2]; rfl
  dsimp only
  rw [hx1]
  show wpAny _ _ (getAttrByItsOwn _ _ _ _ _ _) _ _ _
  unfold getAttrByItsOwn hookBefore
  rw [if_pos (show onTheHeap (Value.ref C) = true from rfl)]
  refine wpAny_bind (L2.at (wpAny_bind (wpAny_attempt (wpAny_holding ?_))))
  unfold callGetattribute
  rw [if_neg (by simp)]
  have f3 := PySem.F.attr_ValueError.ga.bind (.ref a)
  have fin : codeAny (model prog w) A (.call (.builtin "BaseException.__getattribute__") ⟨[.ref a, .str "__class__" t], []⟩) (fun r s' => match r with | .ok (.ret v) => v = .ref C ∧ s' = ⟨hh, g, d, t + 1, os⟩ | _ => False) ⟨hh, g, d, t + 1, os⟩ :=
    codeAny_call_builtin PySem.F.attr_ValueError.ga.plain F.entry_bexc_ga (exc_check (s := ⟨hh, g, d, t + 1, os⟩) X hc I (exc_entry (s := ⟨hh, g, d, t + 1, os⟩) X hg hc I ⟨rfl, rfl⟩))
  unfold boundAndCalled
  rw [f3]
  refine wpAny_bind (wpAny_pure (wpAny_call (codeAny_mono fin fun r s' hr => ?_)))
  cases r with
  | error e => exact hr.elim
  | ok fl =>
    cases fl with
    | ret v =>
      obtain ⟨rfl, rfl⟩ := hr
      exact PySem.W.handed_on rfl (wpAny_pure hq)
    | next => exact hr.elim
    | brk => exact hr.elim
    | cont => exact hr.elim
theorem kitx_exc (hg : ClsG K) (hc : ExcK K C) : PySem.W.KitX K (.ref a) (.ref C) (fun h => ∃ oe, PySem.W.InstAt h a oe C none) where
  ty := fun _ _ _ ⟨_, I⟩ => I.type
  it := fun _ _ X _ => by
    obtain ⟨cdD, hcD⟩ := Option.isSome_iff_exists.mp hc.ci
    unfold PySem.W.clsIn at hcD
    split at hcD
    · rename_i ho
      intro A' Q' E' s' k q
      unfold isType loadHead
      exact wpAny_bind (wpAny_loadPart (k _ _ (X _ _ ho)) (wpAny_pure q))
    · cases hcD
  ne := fun h tp dd its n sl X htp => by
    obtain ⟨cdD, hcD⟩ := Option.isSome_iff_exists.mp hc.ci
    refine Bool.eq_false_iff.mpr fun q => ?_
    have e : C = tp := Value.ref.inj (beq_iff_eq.mp q)
    subst e
    unfold PySem.W.clsIn at hcD
    split at hcD
    · rename_i ho
      have z := (X _ _ ho).symm.trans htp
      cases z
    · cases hcD
  ca := fun X ⟨_, I⟩ k => exc_get X hg hc I k
end
noncomputable def adr (K : PySem.W.Frag) (c : Str) : Option Addr := match PySem.W.nsIn K mainGlobals c with
  | some (some (.ref C)) => some C
  | _ => none
theorem adr_eq {K : PySem.W.Frag} {c : Str} {C : Addr} (h : PySem.W.nsIn K mainGlobals c = some (some (.ref C))) : adr K c = some C := by
  unfold adr; rw [h]
theorem adr_out {K : PySem.W.Frag} {c : Str} {C : Addr} (h : adr K c = some C) : PySem.W.nsIn K mainGlobals c = some (some (.ref C)) := by
  unfold adr at h
  split at h
  · rename_i q; cases h; exact q
  · cases h
noncomputable def exOk (K : PySem.W.Frag) (C : Addr) : Bool := PySem.W.excIn K C vB "ValueError.__new__" && ((PySem.W.findIn K (.ref C) "__getattribute__" == some (some (.builtin "BaseException.__getattribute__"))) && ((PySem.W.findIn K (.ref C) "__getattr__" == some none) && ((PySem.W.findIn K (.ref C) "__class__" == some (some (.builtin "object.__class__"))) && ((PySem.W.mroIn K C (.type "object") == some true) && (PySem.W.mroIn K C (.type "BaseException") == some true)))))
theorem exOk_out {K : PySem.W.Frag} {C : Addr} (h : exOk K C = true) : ExcK K C := by
  unfold exOk at h
  simp only [Bool.and_eq_true, beq_iff_eq] at h
  obtain ⟨h1, h2, h3, h4, h5, h6⟩ := h
  exact ⟨h1, h2, h3, h4, h5, h6⟩
noncomputable def errTab (K : PySem.W.Frag) (y : Str) (cs : List Str) : Bool := (PySem.W.specialIn K (.builtin "object.__class__") "__get__" == some (some (.builtin "getset_descriptor.__get__"))) && ((PySem.W.takesIn K (.builtin "object.__class__") == some true) && (match adr K y with
  | none => false
  | some B => (PySem.W.typeIn K (.ref B) == some (.type "type")) && ((PySem.W.mroIn K B (.type "BaseException") == some true) && cs.all fun c => match adr K c with
    | none => false
    | some C => exOk K C && ((PySem.W.mroIn K C (.ref B) == some true) && ((PySem.W.kitOne K (.ref C) (.type "ValueError") == some true) && cs.all fun d => match adr K d with
      | none => false
      | some D => PySem.W.kitOne K (.ref C) (.ref D) == some (c == d))))))
structure ErrT (K : PySem.W.Frag) (mg : Str → Option Value) (y : Str) (cs : List Str) : Prop where
  tab : errTab K y cs = true
  mgs : ∀ c C, adr K c = some C → mg c = some (.ref C)
section
variable {K : PySem.W.Frag} {mg : Str → Option Value} {y : Str} {cs : List Str}
theorem ErrT.g (h : ErrT K mg y cs) : ClsG K := by
  have := h.tab
  unfold errTab at this
  simp only [Bool.and_eq_true, beq_iff_eq] at this
  exact ⟨this.1, this.2.1⟩
theorem ErrT.par (h : ErrT K mg y cs) : ∃ B, adr K y = some B ∧ mg y = some (.ref B) ∧ PySem.W.typeIn K (.ref B) = some (.type "type") ∧ PySem.W.mroIn K B (.type "BaseException") = some true ∧
    ∀ c ∈ cs, ∃ C, adr K c = some C ∧ mg c = some (.ref C) ∧ ExcK K C ∧ PySem.W.mroIn K C (.ref B) = some true ∧ PySem.W.kitOne K (.ref C) (.type "ValueError") = some true ∧ ∀ d ∈ cs, ∃ D, adr K d = some D ∧ mg d = some (.ref D) ∧ PySem.W.kitOne K (.ref C) (.ref D) = some (c == d) := by
  have q := h.tab
  unfold errTab at q
  simp only [Bool.and_eq_true, beq_iff_eq] at q
  obtain ⟨_, _, q⟩ := q
  cases hB : adr K y with
  | none => rw [hB] at q; cases q
  | some B =>
    rw [hB] at q
    simp only [Bool.and_eq_true, beq_iff_eq, List.all_eq_true] at q
    obtain ⟨q1, q2, q3⟩ := q
    refine ⟨B, rfl, h.mgs y B hB, q1, q2, fun c hc => ?_⟩
    have z := q3 c hc
    cases hC : adr K c with
    | none => rw [hC] at z; cases z
    | some C =>
      rw [hC] at z
      simp only [Bool.and_eq_true, beq_iff_eq, List.all_eq_true] at z
      obtain ⟨z1, z2, z3, z4⟩ := z
      refine ⟨C, rfl, h.mgs c C hC, exOk_out z1, z2, z3, fun d hd => ?_⟩
      have v := z4 d hd
      cases hD : adr K d with
      | none => rw [hD] at v; cases v
      | some D =>
        rw [hD] at v
        exact ⟨D, rfl, h.mgs d D hD, beq_iff_eq.mp v⟩
theorem ErrT.err (h : ErrT K mg y cs) {c : Str} (hc : c ∈ cs) : ErrK K mg c := by
  obtain ⟨B, _, _, _, _, q⟩ := h.par
  obtain ⟨C, _, q2, q3, _⟩ := q c hc
  exact ⟨C, q2, q3.exc⟩
end
noncomputable def excOf : PyData → Option Str
  | .dict [(.str c, .bool true)] => some c
  | _ => none
theorem excOf_eq {d : PyData} {c : Str} (h : excOf d = some c) : d = excD c := by
  unfold excOf at h
  split at h
  · cases h; rfl
  · cases h
@[simp] theorem excOf_excD (c : Str) : excOf (excD c) = some c := rfl
theorem rep_excD {K : PySem.W.Frag} {H : Hp} {x : Str} {v : V} (h : Rep K H (excD x) v) : ∃ a C oe, v = .ref a ∧ H a = some (.frz oe (.own a)) ∧ PySem.W.nsIn K mainGlobals x = some (some (.ref C)) ∧ oe.cls = .ref C ∧ oe.dict = none ∧ ∃ vs, oe.data = .fields vs := by
  obtain ⟨a, h1, ⟨ns, h2, h3⟩ | ⟨ks, ob, h2, h3⟩ | ⟨y, h2, _⟩ | ⟨y, C, oe, h2, h3, h4, h5⟩⟩ := h
  · cases ns with
    | nil => cases h3
    | cons n ns => cases h3
  · exact h3.elim
  · cases h2
  · cases h2
    exact ⟨a, C, oe, h1, h3, h4, h5⟩
noncomputable def isiE (cs : List Str) (f : Str → Bool) (d : PyData) : Option PyData := (excOf d).bind fun c => if c ∈ cs then some (.bool (f c)) else none
section
variable {X : Cx} {a : Expr} {fa : Rho → Option PyData} {pos p p2 : Pos} {y : Str} {cs : List Str}
noncomputable def rIsiE (K : PySem.W.Frag) (w : V) : List V → Hp → VK → Prop := fun xs H Q => ∃ x c C b, xs = [x, w] ∧ Rep K H (excD c) x ∧ adr K c = some C ∧ ExcK K C ∧ (∀ u, RelV w u → PySem.W.kitOne K (.ref C) u = some b) ∧ Q (.bl b) H
theorem call_isiE {w : V} (G : ClsG X.K) : CallR X (.builtin "isinstance") (rIsiE X.K w) := by
  intro pins s σ H xs us Q I r ⟨x, c, C, b, e, h1, hC, hK, h2, q⟩
  subst e
  obtain ⟨u, w', rfl, r1, r2⟩ := vals2 r
  obtain ⟨a, C', oe, rfl, e2, e3, e4, e5, vs, e6⟩ := rep_excD h1
  have := adr_eq e3
  rw [hC] at this; cases this
  cases (show u = Value.ref a from r1)
  have at' : s.heap.get? a = some oe := (I.hok _ _ e2).1
  exact PySem.W.kia_one (kitx_exc G hK) I.kIn ⟨oe, at', e4, by unfold PySem.W.notCls; rw [e6], by rw [e5]; trivial⟩ (h2 w' r2) (fun z => nomatch z) fun tk => ⟨.bl b, H, I.tok tk, rfl, q⟩
theorem pd_isiE {T : Str} (hE : ErrT X.K X.mg y cs) (hm1 : X.mg "isinstance" = none) (ha : PD X a fa) (hT : T ∈ cs := by decide) (hg1 : Gl X "isinstance" := by rfl) (hg2 : Gl X T := by rfl) (hd : (T == ("__debug__" : Str)) = false := by decide)
    (he : starEach [a, .Name T p2] X.env = [(false, eval a X.env), (false, eval (.Name T p2) X.env)] := by rfl) (he2 : starEach [.Name T p2] X.env = [(false, eval (.Name T p2) X.env)] := by rfl) (hpl : (backTo pos (starEach [.Name T p2] X.env)).any (·.1) = false := by rfl) :
    PD X (.Call (.Name "isinstance" p) [a, .Name T p2] [] pos) (fun ρ => (fa ρ).bind (isiE cs fun c => c == T)) := by
  with_unfolding_all
   obtain ⟨B, _, _, _, _, par⟩ := hE.par
   obtain ⟨D, d1, d2, _⟩ := par T hT
   have hT2 : PE X (.Name T p2) (tC (.ref D)) := pe_glob hg2 d2 rfl hd
   refine PE.imp (pe_callB (call_isiE (w := .ref D) hE.g) hg1 hm1 (by decide +kernel) (pa_cons ha (pa_cons hT2 pa_nil (by rw [he2]; rfl)) (by rw [he, he2])) (by decide) (by decide) (by rw [he, he2]) hpl) fun σ H Q ⟨ρ, d, en, q, k⟩ => ?_
   cases h1 : fa ρ with
   | none => simp [h1] at q
   | some c0 =>
     have q' : isiE cs (fun c => c == T) c0 = some d := by simpa [h1] using q
     unfold isiE at q'
     cases h2 : excOf c0 with
     | none => rw [h2] at q'; cases q'
     | some c =>
       rw [h2, Option.bind_some] at q'
       by_cases hc : c ∈ cs
       · rw [if_pos hc] at q'
         cases q'
         have := excOf_eq h2
         subst this
         obtain ⟨C, c1, c2, c3, c4, c5, c6⟩ := par c hc
         obtain ⟨D', d1', d2', d3'⟩ := c6 T hT
         rw [d1] at d1'; cases d1'
         exact ⟨ρ, _, en, h1, fun v H1 s1 r1 => ⟨v, c, C, _, rfl, r1, c1, c3, fun u ru => by cases (show u = Value.ref D from ru); exact d3', k _ H1 s1 rfl⟩⟩
       · rw [if_neg hc] at q'; cases q'
theorem pd_isiV (hE : ErrT X.K X.mg y cs) (hm1 : X.mg "isinstance" = none) (hm2 : X.mg "ValueError" = none) (ha : PD X a fa) (hg1 : Gl X "isinstance" := by rfl) (hg2 : Gl X "ValueError" := by rfl)
    (he : starEach [a, .Name "ValueError" p2] X.env = [(false, eval a X.env), (false, eval (.Name "ValueError" p2) X.env)] := by rfl) (he2 : starEach [.Name "ValueError" p2] X.env = [(false, eval (.Name "ValueError" p2) X.env)] := by rfl) (hpl : (backTo pos (starEach [.Name "ValueError" p2] X.env)).any (·.1) = false := by rfl) :
    PD X (.Call (.Name "isinstance" p) [a, .Name "ValueError" p2] [] pos) (fun ρ => (fa ρ).bind (isiE cs fun _ => true)) := by
  with_unfolding_all
   obtain ⟨B, _, _, _, _, par⟩ := hE.par
   have hT2 : PE X (.Name "ValueError" p2) (tC (.ty "ValueError")) := pe_bltn hg2 hm2 (u := .type "ValueError") (by decide +kernel) rfl (by decide) (by decide)
   refine PE.imp (pe_callB (call_isiE (w := .ty "ValueError") hE.g) hg1 hm1 (by decide +kernel) (pa_cons ha (pa_cons hT2 pa_nil (by rw [he2]; rfl)) (by rw [he, he2])) (by decide) (by decide) (by rw [he, he2]) hpl) fun σ H Q ⟨ρ, d, en, q, k⟩ => ?_
   cases h1 : fa ρ with
   | none => simp [h1] at q
   | some c0 =>
     have q' : isiE cs (fun _ => true) c0 = some d := by simpa [h1] using q
     unfold isiE at q'
     cases h2 : excOf c0 with
     | none => rw [h2] at q'; cases q'
     | some c =>
       rw [h2, Option.bind_some] at q'
       by_cases hc : c ∈ cs
       · rw [if_pos hc] at q'
         cases q'
         have := excOf_eq h2
         subst this
         obtain ⟨C, c1, c2, c3, c4, c5, c6⟩ := par c hc
         exact ⟨ρ, _, en, h1, fun v H1 s1 r1 => ⟨v, c, C, _, rfl, r1, c1, c3, fun u ru => by cases (show u = Value.type "ValueError" from ru); exact c5, k _ H1 s1 rfl⟩⟩
       · rw [if_neg hc] at q'; cases q'
end
end BX

end
section
set_option Elab.async false
set_option linter.all false
set_option maxRecDepth 100000
set_option maxHeartbeats 4000000
namespace BX
open PySem PySem.Spec L2
open PyProof.Rows hiding St
section
variable {X : Cx} {σ : St} {H : Hp} {s : Shared} {e C : Addr}
theorem Inv.take {oe : Obj} (I : Inv X [] σ H s) (m : Mine X H e) (he : s.heap.get? e = some oe) : Inv X [] σ (upd H e (.frz oe (.own e))) s ∧ Same H (upd H e (.frz oe (.own e))) := by
  have ne : ∀ b o, H b = some o → b ≠ e := fun b o q z => by subst z; rw [m.un] at q; cases q
  have sm : Same H (upd H e (.frz oe (.own e))) := fun b o q => by rw [upd_ne (ne b o q)]; exact q
  have u : Un (frs X.stack) [e] H (upd H e (.frz oe (.own e))) s.heap s.heap := ⟨fun b o q _ _ _ => q, fun b o q _ _ _ => ⟨o.slots, q⟩, fun b o q n nc => by rw [upd_ne (fun z => nc (by simp [z]))]; exact n, fun b o q _ => ⟨o, q⟩, fun b xs q => sm b _ q, fun b o v q => sm b _ q, fun b ps q => ⟨#[], by rw [sm b _ q]; simp⟩⟩
  have hok : HOk X.prog X.w (upd H e (.frz oe (.own e))) s.heap := fun b o q => by
    by_cases hb : b = e
    · subst hb
      rw [upd_same] at q; cases q
      exact ⟨he, _, he⟩
    · rw [upd_ne hb] at q
      exact (I.hok b o q).stay (fun c v hc r => r) (fun c r => sm _ _ r) fun c v r => sm _ _ r
  refine ⟨?_, sm⟩
  have J := Inv.call (X := { X with ex := [e] ++ X.ex }) (g' := s.gens) (d' := s.drawn) (t' := s.toks) (Inv.exIn I fun b hb => by rw [List.mem_singleton.mp hb]; exact ⟨m.new, m.loc, m.cel⟩) u hok I.bare fun b hb => by
    rw [List.mem_singleton.mp hb]
    exact ⟨.inl (List.mem_append_left _ (by simp)), m.loc, m.cel, fun p hp => m.pin p (by simpa using hp)⟩
  exact Inv.exOut J I.ok fun b hb => by rw [List.mem_singleton.mp hb]; exact m.new
theorem gone_ok {M : Model} {A : Around} {E : Value → Shared → Prop} {x : Str} {pos : Pos} {Q : Unit → Shared → Prop} (I : Inv X [] σ H s) (hl : X.env.kindOf x = some .local) (h : ∀ s', Inv X [] (List.replicate σ.length none) H s' → Q () s') :
    wpAny M A (do bindName X.env x .none; unbindBehindTheSuite X.env x pos) Q E s := by
  obtain ⟨m, hn, _⟩ := id I.loc
  have hcls : (X.env.scope.kind == .class || (X.env.scope.kind == .module && X.env.locals != X.env.globals)) = false := by rw [I.ok.kind]; rfl
  have cne := I.cne
  refine wpAny_nameGoes hl hn hcls fun h' m' hn' hs => ?_
  obtain ⟨oL, _, _, hoL, _⟩ := id hn
  have tracked : HOk X.prog X.w H h' := fun b ob e => by
    refine (I.hok b ob e).stay (fun c w' hc q => (hs.2 c ?_).trans q) (fun _ q => q) fun _ _ q => q
    rintro rfl
    rcases hc with rfl | hc
    · rw [I.free] at e; cases e
    · rw [I.free] at hc; cases hc
  refine h _ ⟨I.ok, I.os, I.bare, ⟨fun b o e n hb hx => ?_, fun b o e n hb hx => ?_, I.base.free, fun b o e hx => ?_, I.base.tups, I.base.frzs, I.base.tbls⟩, ⟨_, hn', fun j y v' e1 e2 e3 => ?_⟩, fun y c e => ?_, I.free, I.freeC, fun p hp => ?_, tracked, by simpa using I.len⟩
  · exact (hs.2 b (Nat.ne_of_lt (Nat.lt_of_lt_of_le (Heap.lt_size e) I.ok.above))).trans (I.base.keep b o e n hb hx)
  · obtain ⟨sl, e1⟩ := I.base.slot b o e n hb hx
    exact ⟨sl, (hs.2 b (Nat.ne_of_lt (Nat.lt_of_lt_of_le (Heap.lt_size e) I.ok.above))).trans e1⟩
  · obtain ⟨o', e1⟩ := I.base.there b o e hx
    exact ⟨o', (hs.2 b (Nat.ne_of_lt (Nat.lt_of_lt_of_le (Heap.lt_size e) I.ok.above))).trans e1⟩
  · rw [List.getElem?_replicate] at e2
    split at e2 <;> cases e2
  · obtain ⟨w', z⟩ := I.cell y c e
    exact ⟨w', z.sameBut hs (cne y c e)⟩
  · obtain ⟨e, n, ne, nf, d⟩ := I.pin p hp
    exact ⟨(hs.2 p.1 ne).trans e, n, ne, nf, d⟩
theorem matches_par {M : Model} {A : Around} {E : Value → Shared → Prop} {K : PySem.W.Frag} {B : Addr} {oe : Obj} {Q : Bool → Shared → Prop} (X : K.In s.heap) (he : s.heap.get? e = some oe) (hc : oe.cls = .ref C)
    (ht : PySem.W.typeIn K (.ref B) = some (.type "type")) (hB : PySem.W.mroIn K B (.type "BaseException") = some true) (hm : PySem.W.mroIn K C (.ref B) = some true) (hq : Q true s) : wpAny M A (excMatches (.ref e) (.ref B)) Q E s := by
  have L0 := PySem.W.looks_typeIn (M := M) X ht
  have L1 := PySem.W.looks_mroIn (M := M) X hB
  have L2' := PySem.W.looks_mroIn (M := M) X hm
  have Lt : PySem.W.Looks M s.heap (isType (.ref B)) true := by
    obtain ⟨cdD, hcD⟩ := Option.isSome_iff_exists.mp (cls_some hB)
    unfold PySem.W.clsIn at hcD
    split at hcD
    · rename_i ho
      intro A' Q' E' s' k q
      unfold isType loadHead
      exact wpAny_bind (wpAny_loadPart (k _ _ (X _ _ ho)) (wpAny_pure q))
    · cases hcD
  have f := tc_notTuple
  obtain ⟨hp, g, d, tk, os⟩ := s
  unfold excMatches isInstance isExcClass
  repeat (first | (with_reducible refine wpAny_loadPart_at he ?_; rw [hc]) | with_reducible refine L0.at ?_ | with_reducible refine L1.at ?_ | with_reducible refine L2'.at ?_ | with_reducible refine Lt.at ?_ | wp_step)
  exact hq
end
noncomputable def tryA (n i : Nat) (cs : List Str) (F : Rho → Option Out) (fx : Rho → Option Str) (G : Rho → Option Out) : Rho → Option Out := fun ρ => match F ρ with
  | some o => some o
  | none => match fx ρ with
    | some c => if c ∈ cs then (match G ((blank n).set i (some (excD c))) with
      | some (.rt d) => some (.rt d)
      | _ => none) else none
    | none => none
section
variable {X : Cx} {st b0 : Stmt} {sts rest tb hb : List Stmt} {F G : Rho → Option Out} {fx : Rho → Option Str} {pos : Pos}
theorem ps0_tryA {y x : Str} {np hpos : Pos} {n : Nat} {cs : List Str} (i : Nat) (T0 : Top0 X) (hN : X.N.length = n) (hnd : X.N.Nodup) (hE : ErrT X.K X.mg y cs) (hn : ∀ E, PSsD (X.wish E) tb F) (hx : ∀ E, PSsX (X.wish E) tb fx) (hh : ∀ e, PSsD (hX X e) (b0 :: hb) G)
    (hi : X.N[i]? = some x := by rfl) (hl : X.env.kindOf x = some .local := by rfl) (hlk : X.env.scope.names.lookup x = some .local := by rfl) (hg : Gl X y := by rfl) (hdb : (y == ("__debug__" : Str)) = false := by decide) : PS0 X (.Try tb [.ExceptHandler (some (.Name y np)) (some x) (b0 :: hb) hpos] [] [] pos) (tryA n i cs F fx G) := by
  with_unfolding_all
   intro s σ H D I ⟨ρ, o, en, q, k⟩
   refine wpAny_Try_except ?_
   let E' : Value → Shared → Prop := fun ev s1 => wpAny (model X.prog X.w) X.A (noteFrame ev X.env) (fun _ s₂ => wpAny (model X.prog X.w) X.A (setFlight ev none) (fun _ s₃ => wpAny (model X.prog X.w) X.A (handleBy ev X.env [.ExceptHandler (some (.Name y np)) (some x) (b0 :: hb) hpos]) (SP X [] D) X.xe s₃) X.xe s₂) X.xe s1
   cases hF : F ρ with
   | some o1 =>
     have e1 : o1 = o := by simpa [tryA, hF] using q
     subst e1
     refine wpAny_mono (hn E' [] s σ H D (I.wish E') ⟨ρ, o1, en, hF, k⟩) (fun f s1 z => ?_) fun _ _ z => z
     have z' := SP.unwish z
     cases f with
     | next => exact wpAny_execs_nil z'
     | brk => exact z'
     | cont => exact z'
     | ret u => exact z'
   | none =>
     cases hc : fx ρ with
     | none => simp [tryA, hF, hc] at q
     | some c =>
       by_cases hy : c ∈ cs
       · cases hG : G ((blank n).set i (some (excD c))) with
         | none => simp [tryA, hF, hc, hy, hG] at q
         | some o1 =>
         cases o1 with
         | nx ρ1 => simp [tryA, hF, hc, hy, hG] at q
         | bk ρ1 => simp [tryA, hF, hc, hy, hG] at q
         | ct ρ1 => simp [tryA, hF, hc, hy, hG] at q
         | rt d =>
         have q' : Out.rt d = o := by simpa [tryA, hF, hc, hy, hG] using q
         subst q'
         obtain ⟨B, aB, mB, tB, bB, par⟩ := hE.par
         obtain ⟨C', aC, mC, xC, pC, _⟩ := par c hy
         refine wpAny_mono (hx E' s σ H ρ c (I.wish E') en hc fun ev s1 t => ?_) (fun _ _ z => z.elim) fun _ _ z => z
         obtain ⟨e, C, σ1, H1, rfl, hm, J, sm, xc⟩ := t
         have J0 := J.unwish
         have x0 := xc.unwish
         show wpAny _ X.A (noteFrame (.ref e) X.env) _ _ s1
         refine wpAny_mono (note_ok (E := fun _ _ => False) T0 J0.ok.frames J0 x0) (fun _ s2 ⟨J2, t2⟩ => ?_) fun _ _ z => z.elim
         refine wpAny_mono (flight_ok (E := fun _ _ => False) none J2 t2) (fun _ s3 ⟨J3, t3⟩ => ?_) fun _ _ z => z.elim
         have ok := J3.ok
         have hm0 : X.mg c = some (.ref C) := hm
         rw [hm0] at mC; cases mC
         have fr : (X.A.mark (some (.ref e))).frames = some X.stack := ok.frames
         have J4 : Inv (hX X e) [] σ1 H1 s3 := Inv.asA J3 fr (fun z => nomatch z)
         refine wpAny_handleBy_cons (codeAny_handlers_test ?_) (fun z => nomatch z)
         refine ld_glob (X := hX X e) J4 hg mB ?_ hdb
         obtain ⟨oe, ws, T, oT, ts, g1, g2, g3, g4, g5, g6, g7, g8, g9⟩ := id t3.ob
         refine matches_par J4.kIn g1 g2.1 tB bB pC ?_
         refine codeAny_handlers_suite_as ?_
         refine wpAny_mono (flight_ok (A := X.A.mark (some (.ref e))) (E := fun _ _ => False) none J3 t3) (fun _ s5 ⟨J5, t5⟩ => ?_) fun _ _ z => z.elim
         obtain ⟨oe5, ws5, T5, oT5, ts5, g51, g52, g53, _⟩ := id t5.ob
         obtain ⟨J6, sm6⟩ := Inv.take J5 t5.mine g51
         have J7 : Inv (hX X e) [] σ1 (upd H1 e (.frz oe5 (.own e))) s5 := Inv.asA J6 fr (fun z => nomatch z)
         have hlen : σ1.length = n := by rw [← hN, ← J5.len]
         refine store_ok (X := hX X e) J7 hnd hi (.inl hlk) (v := .ref e) rfl (fun s6 J8 => ?_) (.inr hlk)
         have re : Rep X.K (upd H1 e (.frz oe5 (.own e))) (excD c) (.ref e) := ⟨e, rfl, .inr (.inr (.inr ⟨c, _, oe5, rfl, upd_same, adr_out aC, g52.1, g52.2, ws5, g53⟩))⟩
         have eb : EnvR X.K (upd H1 e (.frz oe5 (.own e))) ((blank n).set i (some (excD c))) (σ1.set i (some (.ref e))) := by
           refine ⟨by simp [blank, hlen], fun j d qd => ?_⟩
           by_cases hj : j = i
           · subst hj
             rw [List.getElem?_set_self (by simp only [blank, List.length_replicate]; rw [← hN]; exact (List.getElem?_eq_some_iff.mp hi).1)] at qd
             cases qd
             exact ⟨.ref e, List.getElem?_set_self (by rw [hlen, ← hN]; exact (List.getElem?_eq_some_iff.mp hi).1), re⟩
           · rw [List.getElem?_set_ne (Ne.symm hj)] at qd
             simp [blank, List.getElem?_replicate] at qd
         refine wpAny_mono (hh e [] s6 _ _ { D with nx := fun _ _ => False, bk := fun _ _ => False, ct := fun _ _ => False } J8 ⟨_, .rt d, eb, hG, fun v H' sm' r => k v H' ((sm.trans sm6).trans sm') r⟩) (fun f s7 z => ?_) fun _ _ z => z.elim
         have z' := SP.ofA J5.ok z
         cases f with
         | next => obtain ⟨_, _, _, z⟩ := z'; exact z.elim
         | brk => obtain ⟨_, _, _, z⟩ := z'; exact z.elim
         | cont => obtain ⟨_, _, _, z⟩ := z'; exact z.elim
         | ret u =>
           obtain ⟨v, σ', H', I', r, z⟩ := z'
           exact gone_ok I' hl fun s8 I8 => ⟨v, _, H', I8, r, z⟩
       · simp [tryA, hF, hc, hy] at q
end
end BX

end
section
set_option Elab.async false
set_option linter.all false
set_option maxRecDepth 100000
set_option maxHeartbeats 4000000
namespace BX
open PySem PySem.Spec L2
open PyProof.Rows hiding St
noncomputable abbrev Tri3 := Int × (Int × Int)
structure TripAt (h : Heap) (u : Value) (t : Tri3) : Prop where
  ex : ∃ a o k tk a2, u = .ref a ∧ h.get? a = some o ∧ o.cls = .type "tuple" ∧ o.data = .seq #[.int t.1 tk, .ref a2] k ∧ PairAt h (.ref a2) t.2
section
variable {X : Cx}
end
section
variable {α : Type}
end
end BX

end
section
set_option Elab.async false
set_option linter.all false
set_option maxRecDepth 100000
set_option maxHeartbeats 4000000
namespace BX
open PySem PySem.Spec L2
open PyProof.Rows hiding St
section
variable {X : Cx} {e a b c : Expr} {es rest : List Expr} {st : Stmt} {sts srest : List Stmt} {fx gx : Rho → Option Str} {fa fb : Rho → Option PyData} {F : Rho → Option Out} {pos : Pos}
theorem pdx_or (h1 : PDX X e fx) (h2 : PDX X e gx) : PDX X e (orX fx gx) := by
  with_unfolding_all
   intro s σ H ρ c I en q k
   cases hf : fx ρ with
   | some c' =>
     have : c' = c := by simpa [orX, hf] using q
     subst this
     exact h1 s σ H ρ c' I en hf k
   | none => exact h2 s σ H ρ c I en (by simpa [orX, hf] using q) k
theorem psx_or (h1 : PSX X st fx) (h2 : PSX X st gx) : PSX X st (orX fx gx) := by
  with_unfolding_all
   intro s σ H ρ c I en q k
   cases hf : fx ρ with
   | some c' =>
     have : c' = c := by simpa [orX, hf] using q
     subst this
     exact h1 s σ H ρ c' I en hf k
   | none => exact h2 s σ H ρ c I en (by simpa [orX, hf] using q) k
noncomputable def orD (f g : Rho → Option PyData) : Rho → Option PyData := fun ρ => (f ρ).orElse fun _ => g ρ
theorem pd_orD (h1 : PD X e fa) (h2 : PD X e fb) : PD X e (orD fa fb) := by
  with_unfolding_all
   intro pins s σ H Q I ⟨ρ, d, en, q, k⟩
   cases hf : fa ρ with
   | some d' =>
     have : d' = d := by simpa [orD, hf] using q
     subst this
     exact h1 pins s σ H Q I ⟨ρ, d', en, hf, k⟩
   | none => exact h2 pins s σ H Q I ⟨ρ, d, en, by simpa [orD, hf] using q, k⟩
noncomputable def items : PyData → Option (List PyData)
  | .list ds => some ds
  | .tuple ds => some ds
  | _ => none
noncomputable def itS (fa : Rho → Option PyData) : Rho → Option (List PyData) := fun ρ => (fa ρ).bind items
theorem pid_seq {tg : Expr} (h : PD X e fa) : PID X tg e (itS fa) := by
  with_unfolding_all
   intro pins s σ H R I ⟨ρ, ds, en, q, k⟩
   cases hf : fa ρ with
   | none => simp [itS, hf] at q
   | some d =>
     have q' : items d = some ds := by simpa [itS, hf] using q
     cases d with
     | list es =>
       cases q'
       exact pid_list (tg := tg) h pins s σ H R I ⟨ρ, ds, en, by simp [itL, hf, itemsL], k⟩
     | tuple es =>
       cases q'
       exact pid_tup (tg := tg) h pins s σ H R I ⟨ρ, ds, en, by simp [itT, hf, itemsT], k⟩
     | _ => cases q'
end
theorem _root_.L2.Room.sort {k : Nat} {A : Around} (r : Room k A) : A.in1.in1.units + 8 < cLine := by
  have := r.un
  show A.units + 1 + 1 + 8 < cLine
  omega
theorem RoomH.units {k : Nat} {A : Around} (r : RoomH k A) : A.units + 64 < cLine := by have := r.un; omega
theorem RoomH.mono {j k : Nat} {A : Around} (r : RoomH k A) (h : j ≤ k) : RoomH j A := ⟨by have := r.dp; omega, by have := r.un; omega⟩
section
variable {X : Cx} {a b : Expr} {pos : Pos}
end
@[irreducible] noncomputable def PTX (X : Cx) (e : Expr) (fx : Rho → Option Str) : Prop := ∀ (s : Shared) (σ : St) (H : Hp) (ρ : Rho) (c : Str), Inv X [] σ H s → EnvR X.K H ρ σ → fx ρ = some c → (∀ ev s', Thr X H c ev s' → X.xe ev s') → wpAny (model X.prog X.w) X.A (isTrue e X.env (eval e X.env)) (fun _ _ => False) X.xe s
section
variable {X : Cx} {e a b c : Expr} {l r : List Stmt} {fx gx : Rho → Option Str} {pos : Pos}
theorem ptx_val (h : PDX X e fx) (he : ∀ whole, isTrue e X.env whole = (do let v ← whole; standAt e.pos; holding [v] (truthy v)) := by intro _; rfl) : PTX X e fx := by
  with_unfolding_all
   intro s σ H ρ c I en q k
   exact isTrue_plain (wpAny_mono (h s σ H ρ c I en q k) (fun _ _ z => z.elim) fun _ _ z => z) (he _)
theorem ptx_not (h : PTX X e fx) : PTX X (.UnaryOp .Not e pos) fx := by
  with_unfolding_all
   intro s σ H ρ c I en q k
   exact isTrue_not (wpAny_mono (h s σ H ρ c I en q k) (fun _ _ z => z.elim) fun _ _ z => z)
theorem psx_ifT (h : PTX X e fx) : PSX X (.If e l r pos) fx := by
  with_unfolding_all
   intro s σ H ρ c I en q k
   exact wpAny_If (wpAny_mono (h s σ H ρ c I en q k) (fun _ _ z => z.elim) fun _ _ z => z)
end
end BX

end
section
set_option Elab.async false
set_option linter.all false
set_option maxRecDepth 100000
set_option maxHeartbeats 4000000
namespace BX
open PySem PySem.Spec L2
open PyProof.Rows hiding St
section
variable {X : Cx} {own : Option Nat} {tg : Expr} {st : Stmt} {sts : List Stmt} {fx : Rho → Option Str} {F : Rho → Option Out}
theorem psx_ofO (h : PSOX X none st fx) : PSX X st fx := by
  with_unfolding_all
   intro s σ H ρ c I en q k
   exact h s σ H H ρ c I (EnvO.of en (Same.refl H)) q k
theorem pssox_ofX (h : PSsX X sts fx) : PSsOX X none sts fx := by
  with_unfolding_all
   intro s σ H Hs ρ c I E q k
   exact h s σ H ρ c I E.to q fun ev s' t => k ev s' (t.mono E.sm)
theorem psso_ofD (h : PSsD X sts F) : PSsO X none sts F := by
  with_unfolding_all
   refine PSs.imp h fun D σ H ⟨Hs, ρ, o, E, q, k⟩ => ⟨ρ, o, E.to, q, ?_⟩
   cases o with
   | nx ρ' => exact fun σ' H' s r => k σ' H' (EnvO.of r (E.sm.trans s))
   | rt d => exact fun v H' s r => k v H' (E.sm.trans s) r
   | bk ρ' => exact fun σ' H' s r => k σ' H' (EnvO.of r (E.sm.trans s))
   | ct ρ' => exact fun σ' H' s r => k σ' H' (EnvO.of r (E.sm.trans s))
end
theorem cd_listOf {X : Cx} : CallD X (.type "list") dListOf := by
  refine ⟨_, call_list_of, fun ds d xs H Q h r k => ?_⟩
  unfold dListOf at h
  split at h
  · cases h
    obtain ⟨x, q, e1, e2, e3⟩ := r
    cases (show q = [] from e3)
    obtain ⟨a, us, g1, g2, g3⟩ := e2
    subst g1
    exact ⟨a, us, e1, .inl (SqL.of g2), fun l hl => k _ _ (same_upd hl) ⟨l, us, rfl, upd_same, Reps.mono (same_upd hl) _ _ g3⟩⟩
  · cases h
    obtain ⟨x, q, e1, e2, e3⟩ := r
    cases (show q = [] from e3)
    obtain ⟨a, us, g1, g2, g3⟩ := e2
    subst g1
    exact ⟨a, us, e1, .inr g2, fun l hl => k _ _ (same_upd hl) ⟨l, us, rfl, upd_same, Reps.mono (same_upd hl) _ _ g3⟩⟩
  · cases h
end BX

end
section
set_option Elab.async false
set_option linter.all false
set_option maxRecDepth 100000
set_option maxHeartbeats 4000000
namespace BX
open PySem PySem.Spec L2
open PyProof.Rows hiding St
theorem arm_call_sub (a i : Expr) (fp : Pos) (args : List Expr) (pos : Pos) (env : Env) : eval (.Call (.Subscript a i fp) args [] pos) env = (do
    callWith pos (← eval (.Subscript a i fp) env) [] (backTo pos (starEach args env)) (backToKw pos (keywordEach [] env))) := rfl
section
variable {X : Cx} {a i e : Expr} {es : List Expr} {pos fp : Pos}
noncomputable def calE (x : Str) (g : List PyData → Option PyData) (ff : Rho → Option PyData) (fr : Rho → Option (List PyData)) : Rho → Option PyData := fun ρ => (ff ρ).bind fun d => if isFnD x d = true then (fr ρ).bind g else none
theorem pd_callE {k j n : Nat} {ps : List Str} {g : List PyData → Option PyData} {x : Str} {ff : Rho → Option PyData} {fr : Rho → Option (List PyData)} (c : Callee X.prog X.w X.K X.mg X.base x ps k n g) (hr : Room j X.A) (hkj : k ≤ j) (hf : PD X (.Subscript a i fp) ff) (ha : PAD X (e :: es) fr)
    (hl : ∀ (ρ : Rho) (ds : List PyData), fr ρ = some ds → ds.length = n) (he : starEach (e :: es) X.env = (false, eval e X.env) :: starEach es X.env := by rfl)
    (hpl : (backTo pos (starEach es X.env)).any (·.1) = false := by rfl) : PD X (.Call (.Subscript a i fp) (e :: es) [] pos) (calE x g ff fr) := by
  with_unfolding_all
   obtain ⟨f, fd, c1, c2, c3, c4⟩ := c
   intro pins s σ H Q I ⟨ρ, d, en, q, k⟩
   cases h0 : ff ρ with
   | none => simp [calE, h0] at q
   | some d0 =>
     cases hF : isFnD x d0 with
     | false => simp [calE, h0, hF] at q
     | true =>
       have := isFnD_eq hF
       subst this
       cases h1 : fr ρ with
       | none => simp [calE, h0, hF, h1] at q
       | some ds =>
         have q' : g ds = some d := by simpa [calE, h0, hF, h1] using q
         rw [arm_call_sub]
         refine wpAny_bind (thn (hf pins s σ H (fun v H1 => Same H H1 ∧ Rep X.K H1 (fnD x) v) I ⟨ρ, _, en, h0, fun v H1 s1 r1 => ⟨s1, r1⟩⟩) fun u s1 ⟨v, H1, I1, rv, sm, re⟩ => ?_)
         obtain ⟨ad, ev, ea⟩ := rep_fnD re
         subst ev
         cases rv
         have hff := (PySem.W.mg_of I1.mod.kin I1.mod.glob ea).symm.trans c2
         cases hff
         refine PySem.W.callWith_K (h₀ := X.base) I1.ok.mod.kin c3 (thn (ha pos pins s1 σ H1 (fun vs H2 => Same H1 H2 ∧ Reps X.K H2 ds vs) I1 ⟨ρ, ds, en.mono sm, h1, fun vs H2 s2 r2 => ⟨s2, r2⟩⟩) fun us s2 ⟨vs, H2, I2, r, sm2, rd⟩ => ⟨I2.kIn, ?_⟩) he hpl
         have sp : Pur X.K n g (vs ++ []) H2 Q (fun _ _ _ => False) := ⟨ds, d, hl ρ ds h1, by rw [List.append_nil]; exact rd, q', fun v H' s r => k v H' (sm.trans (sm2.trans s)) r⟩
         exact run_fn c1 (hr.mono hkj) c4 .nil pass0 I2 r sp
noncomputable def calEX (x : Str) (g : List PyData → Option Str) (ff : Rho → Option PyData) (fr : Rho → Option (List PyData)) : Rho → Option Str := fun ρ => (ff ρ).bind fun d => if isFnD x d = true then (fr ρ).bind g else none
theorem pdx_callE {k j n : Nat} {ps : List Str} {g : List PyData → Option Str} {x : Str} {ff : Rho → Option PyData} {fr : Rho → Option (List PyData)} (hxe : X.ex = []) (C : ThrC X.prog X.w X.K X.mg X.base x ps k n g) (hr : Room j X.A) (hkj : k ≤ j) (hf : PD X (.Subscript a i fp) ff) (ha : PAD X (e :: es) fr) (hl : ∀ ρ ds, fr ρ = some ds → ds.length = n)
    (he : starEach (e :: es) X.env = (false, eval e X.env) :: starEach es X.env := by rfl)
    (hpl : (backTo pos (starEach es X.env)).any (·.1) = false := by rfl) : PDX X (.Call (.Subscript a i fp) (e :: es) [] pos) (calEX x g ff fr) := by
  with_unfolding_all
   intro s σ H ρ c I en q k'
   obtain ⟨f, fd, F, hm, hk, hb⟩ := C
   cases h0 : ff ρ with
   | none => simp [calEX, h0] at q
   | some d0 =>
     cases hF : isFnD x d0 with
     | false => simp [calEX, h0, hF] at q
     | true =>
       have := isFnD_eq hF
       subst this
       cases hd : fr ρ with
       | none => simp [calEX, h0, hF, hd] at q
       | some ds =>
         have q' : g ds = some c := by simpa [calEX, h0, hF, hd] using q
         rw [arm_call_sub]
         refine wpAny_bind (thn (hf [] s σ H (fun v H1 => Same H H1 ∧ Rep X.K H1 (fnD x) v) I ⟨ρ, _, en, h0, fun v H1 s1 r1 => ⟨s1, r1⟩⟩) fun u s1 ⟨v, H1, I1, rv, sm0, re⟩ => ?_)
         obtain ⟨ad, ev, ea⟩ := rep_fnD re
         subst ev
         cases rv
         have hff := (PySem.W.mg_of I1.mod.kin I1.mod.glob ea).symm.trans hm
         cases hff
         refine PySem.W.callWith_K (h₀ := X.base) I1.ok.mod.kin hk (thn (ha pos [] s1 σ H1 (fun vs H2 => Same H1 H2 ∧ Reps X.K H2 ds vs) I1 ⟨ρ, ds, en.mono sm0, hd, fun vs H2 s1 r1 => ⟨s1, r1⟩⟩) fun us s2 ⟨vs, H2, I2, r, sm, rd⟩ => ⟨I2.kIn, ?_⟩) he hpl
         have hn : ds.length = n := hl ρ ds hd
         have sp : PurX X.K X.mg n g vs H2 (fun _ _ => False) (fun cls _ H' => X.mg c = some cls ∧ Same H2 H') := ⟨ds, c, hn, rd, q', fun C H' hC s2 => ⟨hC, s2⟩⟩
         have hlu : (us ++ []).length = ps.length := by rw [List.append_nil, ← r.length]; exact F.len _ _ _ _ sp
         have hbd := hb s2 us I2.kIn hlu
         rw [List.append_nil] at hbd
         refine wpAny_call (codeAny_mono (F.run X.A X.stack s2 H2 ⟨us, []⟩ us vs _ _ (hr.mono hkj) I2.env0 hbd r sp) fun rs s' hq => ?_)
         cases rs with
         | error ev =>
           obtain ⟨e0, C, H', rfl, os, bare, un, hok, xc, hC, sm2⟩ := hq
           have J' : Inv X [] σ H' s' := I2.call' (ch := []) os un hok bare fun b z => nomatch z
           exact k' _ _ ⟨e0, C, σ, H', rfl, hC, J', sm0.trans (sm.trans sm2), Xc.of hxe I2 xc⟩
         | ok fl =>
           cases fl with
           | ret u => obtain ⟨v, H', _, _, _, _, _, z⟩ := hq; exact z.elim
           | next => exact False.elim hq
           | brk => exact False.elim hq
           | cont => exact False.elim hq
end
end BX

end
section
set_option Elab.async false
set_option linter.all false
set_option maxRecDepth 100000
set_option maxHeartbeats 4000000
namespace BX
open PySem PySem.Spec L2
open PyProof.Rows hiding St
theorem Same.sE {H H' : Hp} (s : Same H H') : SameE H H' := Same.e s
section
variable {X : Cx} {own : Option Nat} {e a b c : Expr} {es : List Expr} {st : Stmt} {sts rest : List Stmt} {fa fb fc : Rho → Option PyData} {F G : Rho → Option Out} {pos : Pos}
noncomputable def finS (F : Rho → Option Out) : Rho → Option Out := fun ρ => match F ρ with
  | some (.rt d) => some (.rt d)
  | _ => none
theorem psso_fin {i : Nat} (h : PSsD X sts F) : PSsO X (some i) sts (finS F) := by
  with_unfolding_all
   intro pins s σ H D I ⟨Hs, ρ, o, E, q, k⟩
   cases hF : F ρ with
   | none => simp [finS, hF] at q
   | some o1 =>
     cases o1 with
     | rt d =>
       have : Out.rt d = o := by simpa [finS, hF] using q
       subst this
       obtain ⟨d0, a, cl, o', g1, g2, g3, S, g4, env, sm, back, keep⟩ := E.opn
       exact h pins s σ (upd H a o') D (Inv.opened I S g4) ⟨ρ, .rt d, env, hF, fun v H' s' r => k v H' (sm.trans s') r⟩
     | nx _ => simp [finS, hF] at q
     | bk _ => simp [finS, hF] at q
     | ct _ => simp [finS, hF] at q
end
end BX

end
section
set_option Elab.async false
set_option linter.all false
set_option maxRecDepth 100000
set_option maxHeartbeats 4000000
namespace BX
open PySem PySem.Spec L2
open PyProof.Rows hiding St
noncomputable def dIntOf (ds : List PyData) : Option PyData := match ds with
  | [.int i] => some (.int i)
  | [.bool k] => some (.int (if k = true then 1 else 0))
  | _ => none
theorem cd_intOf {X : Cx} : CallD X (.type "int") dIntOf := by
  refine ⟨_, call_int1, fun ds d xs H Q h r k => ?_⟩
  unfold dIntOf at h
  split at h
  · cases h
    obtain ⟨x, q, e1, e2, e3⟩ := r
    cases (show q = [] from e3)
    rename_i i
    cases (show x = V.int i from e2)
    exact .inl ⟨_, e1, k _ _ (Same.refl _) rfl⟩
  · cases h
    obtain ⟨x, q, e1, e2, e3⟩ := r
    cases (show q = [] from e3)
    rename_i b
    cases (show x = V.bl b from e2)
    exact .inr ⟨_, e1, k _ _ (Same.refl _) rfl⟩
  · cases h
section
variable {X : Cx} {tg src : Expr} {pos pos' : Pos} {own : Option Nat}
theorem pso_setC (i : Nat) {x : Str} {el : Expr} {ts : List Expr} {sc : Scope} {ps : Pos} {fi : Rho → Option (List PyData)} {ga : PyData → Rho → Option Rho} {ft : Rho → Option Bool} {fe : Rho → Option PyData} (N' : List Str) (cap : List (Option Nat)) (hc : X.calm = true) (hN : X.N.Nodup) (hi : PID X tg src fi) (ok : CompOk X sc N' cap)
    (body : ∀ cl C s0 H0 fp pn, PGD (blk X N' sc cl C s0 H0 fp pn) tg ga ∧ PTsD (blk X N' sc cl C s0 H0 fp pn) ts ft ∧ PD (blk X N' sc cl C s0 H0 fp pn) el fe)
    (ho : own ≠ some i := by decide) (hi0 : X.N[i]? = some x := by rfl) (hx : Loc X.env.scope x := by first | exact Or.inl rfl | exact Or.inr rfl) (hsw : swapsWith (.ListComp el [⟨tg, src, ts, 0⟩] sc ps) (some (.Name x pos')) pos.line X.env = pure true := by rfl)
    (hf : X.fn x = true ∨ X.env.scope.names.lookup x = some .local := by first | exact .inl rfl | exact .inr rfl | assumption)
    (hs : ∀ x, foldedSetIterable src X.env x = pure x := by intro _; rfl) : PSO X own (.Assign [.Name x pos'] (.ListComp el [⟨tg, src, ts, 0⟩] sc ps) pos) (asgS (fun ρ => compD fi cap ga ft fe (hid own ρ)) (asgN i)) := by
  with_unfolding_all
   refine PS.imp (ps_comp (g := tDG X.K ga) (tt := tDT X.K ft) (te := tD X.K fe) hc hi ok (fun cl C s0 H0 fp pn => body cl C s0 H0 fp pn) hN hi0 hx hsw hf hs) fun D σ H ⟨Hs, ρ, o, E, q, k⟩ => comp_imp ?_
   cases h1 : compD fi cap ga ft fe (hid own ρ) with
   | none => simp [asgS, h1] at q
   | some d =>
     have : Out.nx (ρ.set i (some d)) = o := by simpa [asgS, h1, asgN] using q
     subst this
     exact ⟨hid own ρ, d, E.hid, h1, fun v H1 s1 r1 => k _ H1 ((E.mono s1).set ho r1)⟩
end
end BX

end
section
set_option Elab.async false
set_option linter.all false
set_option maxRecDepth 100000
set_option maxHeartbeats 4000000
namespace Rods
open PySem L2 BX
open PyProof.Rows hiding St
noncomputable def top (i : Nat) : Stmt := PySem.Challenge.pw_beadrods_k20_moves.main.body.getD i (.Pass ⟨0, 0, 0, 0⟩)
structure Bare (mg : Str → Option Value) : Prop where
  isi : mg "isinstance" = none
  bool : mg "bool" = none
  int : mg "int" = none
  tuple : mg "tuple" = none
  zip : mg "zip" = none
  range : mg "range" = none
  all : mg "all" = none
  len : mg "len" = none
  max : mg "max" = none
  min : mg "min" = none
  sum : mg "sum" = none
  sorted : mg "sorted" = none
  abs : mg "abs" = none
  list : mg "list" = none
  enum : mg "enumerate" = none
  vale : mg "ValueError" = none
  str : mg "str" = none
  set : mg "set" = none
  dict : mg "dict" = none
theorem bt_bool : bootBuiltins "bool" = some (.type "bool") := by decide +kernel
theorem bt_int : bootBuiltins "int" = some (.type "int") := by decide +kernel
theorem bt_tuple : bootBuiltins "tuple" = some (.type "tuple") := by decide +kernel
theorem bt_list : bootBuiltins "list" = some (.type "list") := by decide +kernel
theorem bt_all : bootBuiltins "all" = some (.builtin "all") := by decide +kernel
theorem bt_len : bootBuiltins "len" = some (.builtin "len") := by decide +kernel
theorem bt_max : bootBuiltins "max" = some (.builtin "max") := by decide +kernel
theorem bt_min : bootBuiltins "min" = some (.builtin "min") := by decide +kernel
end Rods
namespace Rods
open PySem L2 BX
open PyProof.Rows hiding St
noncomputable abbrev sIsWhole : Stmt := top 9
noncomputable abbrev sRodWorth : Stmt := top 18
noncomputable abbrev sAllRods : Stmt := top 17
noncomputable abbrev Body (C : Program → World → PySem.W.Frag → (Str → Option Value) → Heap → Prop) (qual : Str) (st : Stmt) (N : List Str) (k : Nat) (B : Rho → Option Out) : Prop :=
  ∀ (P : Program) (w : World) (K : PySem.W.Frag) (mg : Str → Option Value) (base : Heap) (f : Addr) (cdv : Value) (A : Around) (outer : List Env) (s : Shared) (H : Hp) (E : XK), C P w K mg base → Room k (A.deeper (envOfC qual (defScope st) s.heap.objs.size f cdv)) →
    PSsD (cxOf CX0 P w K mg base N qual (defScope st) f cdv A outer s H E).nox (defBody st) B
theorem sc_isWhole : FnScope ["thing", "least", "most"] ["thing", "least", "most"] (defScope sIsWhole) := ⟨rfl, rfl, rfl, by decide +kernel, rfl, by decide +kernel, by decide +kernel⟩
noncomputable def bIsWhole : { B : Rho → Option Out // Body (fun _ _ _ mg _ => Bare mg) "is_whole" sIsWhole ["thing", "least", "most"] 0 B } :=
  ⟨_, fun P w K mg base f cdv A outer s H E T hr =>
    pssd_cons (psd_if (ptd_bool (pwd_or (ptd_val (pd_isi (.inl rfl) T.isi T.bool bt_bool (pd_var 0))) (pwd_or1 (ptd_not (ptd_val (pd_isi (.inr (.inl rfl)) T.isi T.int bt_int (pd_var 0))))))) (pssd_cons (psd_ret pd_bl) pssd_nil) pssd_nil)
    (pssd_cons (psd_ret (pd_chain opd_le opd_le (pd_var 1) (pd_var 0) (pd_var 2))) pssd_nil)⟩
noncomputable def gIsWhole : List PyData → Option PyData := bodyD ["thing", "least", "most"] 3 bIsWhole.1
theorem sc_rodWorth : FnScope ["manner", "rod"] ["manner", "rod"] (defScope sRodWorth) := ⟨rfl, rfl, rfl, by decide +kernel, rfl, by decide +kernel, by decide +kernel⟩
noncomputable def bRodWorth : { B : Rho → Option Out // Body (fun _ _ _ _ _ => True) "rod_worth" sRodWorth ["manner", "rod"] 0 B } :=
  ⟨_, fun P w K mg base f cdv A outer s H E T hr =>
    pssd_cons (psd_ret (pd_bin opd_add (pd_bin opd_mul (pd_ix (pd_var 1) pd_int) (pd_ix (pd_var 0) pd_int)) (pd_ix (pd_var 1) pd_int))) pssd_nil⟩
noncomputable def gRodWorth : List PyData → Option PyData := bodyD ["manner", "rod"] 2 bRodWorth.1
noncomputable def rodRow (i : Nat) (m : Nat) : List PyData := (List.range m).map fun (j : Nat) => PyData.tuple [.int (i : Int), .int (j : Int)]
noncomputable def rodsN (n m : Nat) : List PyData := (List.range n).flatMap fun (i : Nat) => rodRow i m
theorem rodRow_succ (i m : Nat) : rodRow i (m + 1) = rodRow i m ++ [PyData.tuple [.int (i : Int), .int (m : Int)]] := by simp [rodRow, List.range_succ]
theorem rodsN_succ (n m : Nat) : rodsN (n + 1) m = rodsN n m ++ rodRow n m := by simp [rodsN, List.range_succ]
theorem noLs_row (i m : Nat) : noLs (rodRow i m) = true := noLs_all fun d hd => by
  obtain ⟨j, _, rfl⟩ := List.mem_map.mp hd
  simp [noL, noLs]
theorem noLs_rods (n m : Nat) : noLs (rodsN n m) = true := by
  induction n with
  | zero => simp [rodsN, noLs]
  | succ n ih => rw [rodsN_succ, noLs_append, ih, noLs_row]; rfl
theorem len_row (i m : Nat) : (rodRow i m).length = m := by simp [rodRow]
theorem len_rods (n m : Nat) : (rodsN n m).length = n * m := by
  induction n with
  | zero => simp [rodsN]
  | succ n ih => rw [rodsN_succ, List.length_append, ih, len_row, Nat.succ_mul]
noncomputable def gAllRods (ds : List PyData) : Option PyData := match ds with
  | [.tuple [.int u, .int _, .int l, .int _]] => if 0 ≤ u ∧ u < 1000 ∧ 0 ≤ l ∧ l < 1000 then some (.list (rodsN (u + 1).toNat (l + 1).toNat)) else none
  | _ => none
theorem sc_allRods : FnScope ["manner", "rods", "upper", "lower"] ["manner"] (defScope sAllRods) := ⟨rfl, rfl, rfl, by decide +kernel, rfl, by decide +kernel, by decide +kernel⟩
end Rods
namespace Rods
open PySem L2 BX
open PyProof.Rows hiding St
section
variable {P : Program} {w : World} {K : PySem.W.Frag} {mg : Str → Option Value} {base : Heap}
theorem ok_allRods {f : Addr} {fd : FuncData} (F : Fun K "all_rods" "all_rods" sAllRods f fd) (T : Bare mg) : FnOk P w K mg base CX0 1 f fd ["manner"] (Pur K 1 gAllRods) := by
  with_unfolding_all
   refine F.ok sc_allRods (fun vs H Q E h => ?_) (fun cdv A outer s H vs Q E hr h => ?_)
   · obtain ⟨ds, d, h1, h2, _⟩ := h
     rw [h2.length]; exact h1
   · obtain ⟨ds, d, h1, h2, h3, k⟩ := h
     unfold gAllRods at h3
     split at h3
     · rename_i u e l b
       split at h3
       · rename_i hb
         obtain ⟨hu0, hu1, hl0, hl1⟩ := hb
         cases h3
         refine ⟨_, pss_cons (ps_set (i := 1) sc_allRods.nd rfl (Or.inl rfl) (pe_lst pa_nil))
           (pss_cons (ps_for PassesOwn.never rfl (pi_range1 rfl T.range (pad_cons (pd_bin opd_add (pd_ix (pd_var 0) pd_int) pd_int) pad_nil)) (pg_name (i := 2) sc_allRods.nd rfl (Or.inl rfl))
             (pss_one (ps_for PassesOwn.never rfl (pi_range1 rfl T.range (pad_cons (pd_bin opd_add (pd_ix (pd_var 0) pd_int) pd_int) pad_nil)) (pg_name (i := 3) sc_allRods.nd rfl (Or.inl rfl))
               (pss_one (ps_expr (pe_bm PySem.F.plainAttrs_list PySem.F.slot_list_append PySem.F.type_list_append mt_append (pv 1) (pa_cons (pe_tup (pa_cons (pv 2) (pa_cons (pv 3) pa_nil))) pa_nil)))))))
           (pss_one (ps_ret (pv 1)))), ?_⟩
         obtain ⟨mv, rr, e1, em, e2⟩ := h2
         cases (show rr = [] from e2)
         subst e1
         have nm : noL (PyData.tuple [.int u, .int e, .int l, .int b]) = true := by simp [noL, noLs]
         -- rods = []
         refine ⟨Nat.zero_le _, fun p hp => ?_⟩
         have envr : ∀ {H2 : Hp} {x2 x3 : Option V} {y : Option V}, Same H H2 → EnvR K H2 [some (PyData.tuple [.int u, .int e, .int l, .int b]), none, none, none] [some mv, y, x2, x3] := fun {H2 x2 x3 y} s2 =>
           ⟨rfl, fun i d q => by
             cases i with
             | zero => cases q; exact ⟨mv, rfl, Rep.mono s2 _ _ em⟩
             | succ i =>
               match i, q with
               | 0, q => cases q
               | 1, q => cases q
               | 2, q => cases q
               | j + 3, q => simp at q⟩
         -- for upper in range(manner[0] + 1)
         refine ⟨_, [.int (u + 1)], envr (same_upd hp), by simp [consA, nilA, op2, lkp, dIx, atI, ixN, cst, dAdd], fun vs1 H1 s1 r1 => ?_⟩
         obtain ⟨y1, q1, f1, f2, f3⟩ := r1
         cases (show y1 = V.int (u + 1) from f2)
         cases (show q1 = [] from f3)
         subst f1
         refine ⟨u + 1, rfl, by omega, by omega, for_range (n := (u + 1).toNat) (fun i σ H2 => ∃ x2 x3 xs, σ = [some mv, some (.ref p), x2, x3] ∧ Same H H2 ∧ H2 p = some (.lst xs) ∧ Reps K H2 (rodsN i (l + 1).toNat) xs)
           ⟨none, none, [], rfl, (same_upd hp).trans s1, s1 _ _ upd_same, rfl⟩ ?_ ?_⟩
         · rintro i σ H2 hi ⟨x2, x3, xs, rfl, s2, hp2, r2⟩
           -- for lower in range(manner[2] + 1)
           refine ⟨_, [.int (l + 1)], envr s2, by simp [consA, nilA, op2, lkp, dIx, atI, ixN, cst, dAdd], fun vs2 H3 s3 r3 => ?_⟩
           obtain ⟨y2, q2, g1, g2, g3⟩ := r3
           cases (show y2 = V.int (l + 1) from g2)
           cases (show q2 = [] from g3)
           subst g1
           refine ⟨l + 1, rfl, by omega, by omega, for_range (n := (l + 1).toNat) (fun j σ H4 => ∃ x3 ys, σ = [some mv, some (.ref p), some (.int (0 + i)), x3] ∧ Same H H4 ∧ H4 p = some (.lst ys) ∧ Reps K H4 (rodsN i (l + 1).toNat ++ rodRow i j) ys)
             ⟨x3, xs, rfl, s2.trans s3, s3 _ _ hp2, by simpa [rodRow] using Reps.mono s3 _ _ r2⟩ ?_ ?_⟩
           · rintro j σ H4 hj ⟨x3', ys, rfl, s4, hp4, r4⟩
             have hlen : ys.length < sizeLine := by
               rw [r4.length, List.length_append, len_rods, len_row, sizeLine_eq]
               have h1 : i * (l + 1).toNat ≤ 1000 * 1001 := Nat.mul_le_mul (by omega) (by omega)
               omega
             refine ⟨_, rfl, .inl ⟨rfl, ys, SqL.of hp4⟩, _, rfl, _, rfl, by show 2 ≤ sizeLine; rw [sizeLine_eq]; decide, fun q hq => ?_⟩
             have npq : p ≠ q := ne_of_none hp4 hq
             refine ⟨p, ys, .ref q, rfl, rfl, by rw [upd_ne npq]; exact hp4, hlen, ?_⟩
             have t1 : SameN H4 (upd (upd H4 q (.tup [.int (0 + (i : Int)), .int (0 + (j : Int))])) p (.lst (ys ++ [.ref q]))) :=
               (Same.n (same_upd hq)).trans (SameN.upd (xs := ys) (by rw [upd_ne npq]; exact hp4))
             refine ⟨_, ys ++ [.ref q], rfl, fun c o hc => ?_, upd_same, ?_⟩
             · have hc4 := s4 c o hc
               rw [upd_ne (ne_of_none hc hp), upd_ne (ne_of_none hc4 hq)]
               exact hc4
             · rw [rodRow_succ, ← List.append_assoc]
               refine (Reps.monoN t1 _ _ (by rw [noLs_append, noLs_rods, noLs_row]; rfl) r4).append ⟨.ref q, [], rfl, ⟨q, _, rfl, SqT.of (by rw [upd_ne (Ne.symm npq)]; exact upd_same), ?_⟩, rfl⟩
               exact ⟨_, _, rfl, by show _ = V.int _; rw [Int.zero_add], _, _, rfl, by show _ = V.int _; rw [Int.zero_add], rfl⟩
           · rintro σ H4 ⟨x3', ys, rfl, s4, hp4, r4⟩
             exact ⟨_, x3', ys, rfl, s4, hp4, by rw [rodsN_succ]; exact r4⟩
         · rintro σ H2 ⟨x2, x3, xs, rfl, s2, hp2, r2⟩
           exact ⟨_, rfl, k _ _ s2 ⟨p, xs, rfl, hp2, r2⟩⟩
       · cases h3
     · cases h3
end
end Rods
namespace Rods
open PySem L2 BX
open PyProof.Rows hiding St
noncomputable abbrev sHasAll : Stmt := top 14
noncomputable abbrev sIsManner : Stmt := top 13
noncomputable abbrev CC := Program → World → PySem.W.Frag → (Str → Option Value) → Heap → Prop
structure CHasAll (P : Program) (w : World) (K : PySem.W.Frag) (mg : Str → Option Value) (base : Heap) : Prop where
  t : Bare mg
  allRods : Callee P w K mg base "all_rods" ["manner"] 1 1 gAllRods
  rodWorth : Callee P w K mg base "rod_worth" ["manner", "rod"] 1 2 gRodWorth
theorem sc_hasAll : FnScope ["manner", "worths"] ["manner"] (defScope sHasAll) := ⟨rfl, rfl, rfl, by decide +kernel, rfl, by decide +kernel, by decide +kernel⟩
theorem nd2 : (["rod", "manner"] : List Str).Nodup := by decide +kernel
theorem nd3 : (["digit", "worths"] : List Str).Nodup := by decide +kernel
noncomputable def bHasAll : { B : Rho → Option Out // Body CHasAll "has_all_digits" sHasAll ["manner", "worths"] 1 B } :=
  ⟨_, fun P w K mg base f cdv A outer s H E C hr =>
    pssd_cons (psd_set 1 sc_hasAll.nd (pd_comp ["rod", "manner"] [none, some 0] rfl (pid_list (pd_callC C.allRods hr (Nat.le_refl _) (pad_cons (pd_var 0) pad_nil) (len_cons len_nil))) (comp_ok (defScope sHasAll) ["manner", "worths"] (by decide +kernel))
      fun cl C' s0 H0 fp pn => ⟨pgd_name 0 nd2, ptsd_nil, pd_callC C.rodWorth hr (Nat.le_refl _) (pad_cons (pd_var 1) (pad_cons (pd_var 0) pad_nil)) (len_cons (len_cons len_nil))⟩))
    (pssd_cons (psd_ret (pd_callB (cd_all rfl) C.t.all bt_all (pad_cons (pd_comp ["digit", "worths"] [none, some 1] rfl (pid_range1 rfl C.t.range (pad_cons (pd_ix (pd_var 0) pd_int) pad_nil)) (comp_ok (defScope sHasAll) ["manner", "worths"] (by decide +kernel))
      fun cl C' s0 H0 fp pn => ⟨pgd_name 0 nd3, ptsd_nil, pd_cmp (opd_in hr.units) (pd_var 0) (pd_var 1)⟩) pad_nil))) pssd_nil)⟩
noncomputable abbrev sCheck : Stmt := top 15
noncomputable def GC (K : PySem.W.Frag) (mg : Str → Option Value) (x : Str) (d : PyData) : Prop := ∃ v u, mg x = some u ∧ RelV v u ∧ ∀ H, Rep K H d v
theorem pd_gc {X : Cx} {pos : Pos} {x : Str} {d : PyData} (c : GC X.K X.mg x d) (hg : Gl X x := by rfl) (hd : (x == ("__debug__" : Str)) = false := by decide) : PD X (.Name x pos) (cst d) := by
  with_unfolding_all
   obtain ⟨v, u, h1, h2, h3⟩ := c
   exact pd_glob hg h1 h2 h3 hd
noncomputable def gHasAll : List PyData → Option PyData := bodyD ["manner", "worths"] 1 bHasAll.1
structure CIsManner (P : Program) (w : World) (K : PySem.W.Frag) (mg : Str → Option Value) (base : Heap) : Prop where
  t : Bare mg
  least : GC K mg "LEAST_PARTS" (.tuple [.int 0, .int 1, .int 0, .int 2])
  most : GC K mg "MOST_PARTS" (.tuple [.int 3, .int 16, .int 12, .int 16])
  isWhole : Callee P w K mg base "is_whole" ["thing", "least", "most"] 1 3 gIsWhole
  hasAll : Callee P w K mg base "has_all_digits" ["manner"] 2 1 gHasAll
theorem sc_isManner : FnScope ["thing", "part", "least", "most"] ["thing"] (defScope sIsManner) := ⟨rfl, rfl, rfl, by decide +kernel, rfl, by decide +kernel, by decide +kernel⟩
noncomputable def bIsManner : { B : Rho → Option Out // Body CIsManner "is_manner" sIsManner ["thing", "part", "least", "most"] 2 B } :=
  ⟨_, fun P w K mg base f cdv A outer s H E C hr =>
    pssd_cons (psd_if (ptd_bool (pwd_or (ptd_not (ptd_val (pd_isi (.inr (.inr rfl)) C.t.isi C.t.tuple bt_tuple (pd_var 0)))) (pwd_or1 (ptd_cmp (opd_ne hr.units) (pd_callB cd_len C.t.len bt_len (pad_cons (pd_var 0) pad_nil)) (pd_callB cd_len C.t.len bt_len (pad_cons (pd_gc C.most) pad_nil)))))) (pssd_cons (psd_ret pd_bl) pssd_nil) pssd_nil)
    (pssd_cons (psd_for PassesOwn.never rfl (pid_zip3 C.t.zip (pad_cons (pd_var 0) (pad_cons (pd_gc C.least) (pad_cons (pd_gc C.most) pad_nil)))) (pgd_tup (n := 3) rfl (pgsd_cons (pgd_name 1 sc_isManner.nd) (pgsd_cons (pgd_name 2 sc_isManner.nd) (pgsd_cons (pgd_name 3 sc_isManner.nd) pgsd_nil))))
      (pssd_cons (psd_if (ptd_not (ptd_val (pd_callC C.isWhole hr (by decide) (pad_cons (pd_var 1) (pad_cons (pd_var 2) (pad_cons (pd_var 3) pad_nil))) (len_cons (len_cons (len_cons len_nil)))))) (pssd_cons (psd_ret pd_bl) pssd_nil) pssd_nil) pssd_nil))
    (pssd_cons (psd_ret (pd_callC C.hasAll hr (Nat.le_refl _) (pad_cons (pd_var 0) pad_nil) (len_cons len_nil))) pssd_nil))⟩
noncomputable def gIsManner : List PyData → Option PyData := bodyD ["thing", "part", "least", "most"] 1 bIsManner.1
structure CCheck (P : Program) (w : World) (K : PySem.W.Frag) (mg : Str → Option Value) (base : Heap) : Prop where
  isManner : Callee P w K mg base "is_manner" ["thing"] 3 1 gIsManner
theorem sc_check : FnScope ["thing"] ["thing"] (defScope sCheck) := ⟨rfl, rfl, rfl, by decide +kernel, rfl, by decide +kernel, by decide +kernel⟩
noncomputable def bCheck : { B : Rho → Option Out // Body CCheck "check_manner" sCheck ["thing"] 3 B } :=
  ⟨_, fun P w K mg base f cdv A outer s H E C hr =>
    pssd_cons (psd_if (ptd_not (ptd_val (pd_callC C.isManner hr (Nat.le_refl _) (pad_cons (pd_var 0) pad_nil) (len_cons len_nil)))) pssd_never pssd_nil) pssd_nil⟩
noncomputable def gCheck : List PyData → Option PyData := bodyD ["thing"] 1 bCheck.1
noncomputable abbrev BodyS (C : CC) (qual : Str) (st : Stmt) (N : List Str) (k : Nat) (sts : List Stmt) (B : Rho → Option Out) : Prop :=
  ∀ (P : Program) (w : World) (K : PySem.W.Frag) (mg : Str → Option Value) (base : Heap) (f : Addr) (cdv : Value) (A : Around) (outer : List Env) (s : Shared) (H : Hp) (E : XK), C P w K mg base → Room k (A.deeper (envOfC qual (defScope st) s.heap.objs.size f cdv)) →
    PSsD (cxOf CX0 P w K mg base N qual (defScope st) f cdv A outer s H E).nox sts B
noncomputable abbrev BodyO (own : Nat) (C : CC) (qual : Str) (st : Stmt) (N : List Str) (k : Nat) (sts : List Stmt) (B : Rho → Option Out) : Prop :=
  ∀ (P : Program) (w : World) (K : PySem.W.Frag) (mg : Str → Option Value) (base : Heap) (f : Addr) (cdv : Value) (A : Around) (outer : List Env) (s : Shared) (H : Hp) (E : XK), C P w K mg base → Room k (A.deeper (envOfC qual (defScope st) s.heap.objs.size f cdv)) →
    PSsO (cxOf CX0 P w K mg base N qual (defScope st) f cdv A outer s H E).nox (some own) sts B
noncomputable def forBody : Stmt → List Stmt
  | .For _ _ b _ _ => b
  | _ => []
noncomputable def nthS (l : List Stmt) (i : Nat) : Stmt := l.getD i (.Pass ⟨0, 0, 0, 0⟩)
noncomputable abbrev sIsRod : Stmt := top 16
noncomputable abbrev sIsSetting : Stmt := top 21
noncomputable abbrev sCheckSetting : Stmt := top 22
noncomputable def whileBody : Stmt → List Stmt
  | .While _ b _ _ => b
  | _ => []
structure CIsRod (P : Program) (w : World) (K : PySem.W.Frag) (mg : Str → Option Value) (base : Heap) : Prop where
  t : Bare mg
  isWhole : Callee P w K mg base "is_whole" ["thing", "least", "most"] 1 3 gIsWhole
theorem sc_isRod : FnScope ["manner", "thing"] ["manner", "thing"] (defScope sIsRod) := ⟨rfl, rfl, rfl, by decide +kernel, rfl, by decide +kernel, by decide +kernel⟩
noncomputable def bIsRod : { B : Rho → Option Out // Body CIsRod "is_rod" sIsRod ["manner", "thing"] 1 B } :=
  ⟨_, fun P w K mg base f cdv A outer s H E C hr =>
    pssd_cons (psd_if (ptd_bool (pwd_or (ptd_not (ptd_val (pd_isi (.inr (.inr rfl)) C.t.isi C.t.tuple bt_tuple (pd_var 1)))) (pwd_or1 (ptd_cmp (opd_ne hr.units) (pd_callB cd_len C.t.len bt_len (pad_cons (pd_var 1) pad_nil)) pd_int)))) (pssd_cons (psd_ret pd_bl) pssd_nil) pssd_nil)
    (pssd_cons (psd_ret (pd_and (pd_callC C.isWhole hr (Nat.le_refl _) (pad_cons (pd_ix (pd_var 1) pd_int) (pad_cons pd_int (pad_cons (pd_ix (pd_var 0) pd_int) pad_nil))) (len_cons (len_cons (len_cons len_nil)))) (pd_one (pd_callC C.isWhole hr (Nat.le_refl _) (pad_cons (pd_ix (pd_var 1) pd_int) (pad_cons pd_int (pad_cons (pd_ix (pd_var 0) pd_int) pad_nil))) (len_cons (len_cons (len_cons len_nil))))))) pssd_nil)⟩
noncomputable def gIsRod : List PyData → Option PyData := bodyD ["manner", "thing"] 2 bIsRod.1
structure CIsSet (P : Program) (w : World) (K : PySem.W.Frag) (mg : Str → Option Value) (base : Heap) : Prop where
  t : Bare mg
  check : Callee P w K mg base "check_manner" ["thing"] 4 1 gCheck
  isRod : Callee P w K mg base "is_rod" ["manner", "thing"] 2 2 gIsRod
  most : GC K mg "MOST_RODS" (.int 4)
theorem sc_isSet : FnScope ["manner", "thing"] ["manner", "thing"] (defScope sIsSetting) := ⟨rfl, rfl, rfl, by decide +kernel, rfl, by decide +kernel, by decide +kernel⟩
theorem ndp : (["part", "manner"] : List Str).Nodup := by decide +kernel
noncomputable def bIsSet : { B : Rho → Option Out // Body CIsSet "is_setting" sIsSetting ["manner", "thing"] 4 B } :=
  ⟨_, fun P w K mg base f cdv A outer s H E C hr =>
    pssd_cons (psd_expr (pd_callC C.check hr (Nat.le_refl _) (pad_cons (pd_var 0) pad_nil) (len_cons len_nil)))
    (pssd_cons (psd_if (ptd_bool (pwd_or (ptd_not (ptd_val (pd_isi (.inr (.inr rfl)) C.t.isi C.t.tuple bt_tuple (pd_var 1)))) (pwd_or1 (ptd_not (ptd_chain opd_le opd_le pd_int (pd_callB cd_len C.t.len bt_len (pad_cons (pd_var 1) pad_nil)) (pd_gc C.most)))))) (pssd_cons (psd_ret pd_bl) pssd_nil) pssd_nil)
    (pssd_cons (psd_ret (pd_callB (cd_all rfl) C.t.all bt_all (pad_cons (pd_comp ["part", "manner"] [none, some 0] rfl (pid_tup (pd_var 1)) (comp_ok (defScope sIsSetting) ["manner", "thing"] (by decide +kernel))
      fun cl C' s0 H0 fp pn => ⟨pgd_name 0 ndp, ptsd_nil, pd_callC C.isRod hr (by decide) (pad_cons (pd_var 1) (pad_cons (pd_var 0) pad_nil)) (len_cons (len_cons len_nil))⟩) pad_nil))) pssd_nil))⟩
noncomputable def gIsSet : List PyData → Option PyData := bodyD ["manner", "thing"] 2 bIsSet.1
structure CChkSet (P : Program) (w : World) (K : PySem.W.Frag) (mg : Str → Option Value) (base : Heap) : Prop where
  isSet : Callee P w K mg base "is_setting" ["manner", "thing"] 5 2 gIsSet
theorem sc_chkSet : FnScope ["manner", "thing"] ["manner", "thing"] (defScope sCheckSetting) := ⟨rfl, rfl, rfl, by decide +kernel, rfl, by decide +kernel, by decide +kernel⟩
noncomputable def bChkSet : { B : Rho → Option Out // Body CChkSet "check_setting" sCheckSetting ["manner", "thing"] 5 B } :=
  ⟨_, fun P w K mg base f cdv A outer s H E C hr =>
    pssd_cons (psd_if (ptd_not (ptd_val (pd_callC C.isSet hr (Nat.le_refl _) (pad_cons (pd_var 0) (pad_cons (pd_var 1) pad_nil)) (len_cons (len_cons len_nil))))) pssd_never pssd_nil) pssd_nil⟩
noncomputable def gChkSet : List PyData → Option PyData := bodyD ["manner", "thing"] 2 bChkSet.1
noncomputable abbrev sCell : Stmt := top 35
noncomputable abbrev sDrawn : Stmt := top 36
noncomputable abbrev sManner : Stmt := top 37
noncomputable abbrev sSetting : Stmt := top 38
noncomputable abbrev BodyT (C : CC) (qual : Str) (st : Stmt) (N : List Str) (k : Nat) (Fx : Rho → Option Str) : Prop :=
  ∀ (P : Program) (w : World) (K : PySem.W.Frag) (mg : Str → Option Value) (base : Heap) (f : Addr) (cdv : Value) (A : Around) (outer : List Env) (s : Shared) (H : Hp) (E : XK), C P w K mg base → Room k (A.deeper (envOfC qual (defScope st) s.heap.objs.size f cdv)) →
    PSsX (cxOf (CXt P w) P w K mg base N qual (defScope st) f cdv A outer s H E) (defBody st) Fx
theorem sc_cell : FnScope ["_law_script", "_law_k"] ["_law_script", "_law_k"] (defScope sCell) := ⟨rfl, rfl, rfl, by decide +kernel, rfl, by decide +kernel, by decide +kernel⟩
noncomputable def bCell : { B : Rho → Option Out // Body (fun _ _ _ mg _ => Bare mg) "_law_cell" sCell ["_law_script", "_law_k"] 0 B } :=
  ⟨_, fun P w K mg base f cdv A outer s H E C hr =>
    pssd_cons (psd_if (ptd_cmp (opd_eq hr.units) (pd_var 0) (pd_lst pad_nil)) (pssd_cons (psd_ret (pd_bin opd_mul pd_int (pd_var 1))) pssd_nil) pssd_nil)
    (pssd_cons (psd_ret (pd_bin opd_add (pd_ix (pd_var 0) (pd_bin opd_mod (pd_var 1) (pd_callB cd_len C.len bt_len (pad_cons (pd_var 0) pad_nil)))) (pd_bin opd_mul pd_int (pd_bin opd_fdiv (pd_var 1) (pd_callB cd_len C.len bt_len (pad_cons (pd_var 0) pad_nil)))))) pssd_nil)⟩
noncomputable def gCell : List PyData → Option PyData := bodyD ["_law_script", "_law_k"] 2 bCell.1
structure CDrawn (P : Program) (w : World) (K : PySem.W.Frag) (mg : Str → Option Value) (base : Heap) : Prop where
  cell : Callee P w K mg base "_law_cell" ["_law_script", "_law_k"] 1 2 gCell
theorem sc_drawn : FnScope ["_law_script", "_law_k", "_law_many", "_law_cell_here"] ["_law_script", "_law_k", "_law_many"] (defScope sDrawn) := ⟨rfl, rfl, rfl, by decide +kernel, rfl, by decide +kernel, by decide +kernel⟩
noncomputable def bDrawn : { B : Rho → Option Out // Body CDrawn "_law_drawn" sDrawn ["_law_script", "_law_k", "_law_many", "_law_cell_here"] 1 B } :=
  ⟨_, fun P w K mg base f cdv A outer s H E C hr =>
    pssd_cons (psd_set 3 sc_drawn.nd (pd_bin opd_mod (pd_bin opd_add (pd_bin opd_mul (pd_bin opd_mod (pd_callC C.cell hr (Nat.le_refl _) (pad_cons (pd_var 0) (pad_cons (pd_var 1) pad_nil)) (len_cons (len_cons len_nil))) pd_int) pd_int) (pd_bin opd_mul pd_int (pd_bin opd_add (pd_var 1) pd_int))) pd_int))
    (pssd_cons (psd_set 3 sc_drawn.nd (pd_bin opd_mod (pd_bin opd_add (pd_bin opd_mul (pd_var 3) (pd_var 3)) (pd_bin opd_fdiv (pd_var 3) pd_int)) pd_int))
    (pssd_cons (psd_ret (pd_bin opd_mod (pd_bin opd_fdiv (pd_bin opd_mod (pd_bin opd_add (pd_bin opd_mul (pd_var 3) (pd_var 3)) (pd_bin opd_fdiv (pd_var 3) pd_int)) pd_int) pd_int) (pd_var 2))) pssd_nil))⟩
noncomputable def gDrawn : List PyData → Option PyData := bodyD ["_law_script", "_law_k", "_law_many", "_law_cell_here"] 3 bDrawn.1
noncomputable abbrev nManner : List Str := ["_law_script", "_law_at", "_law_known", "_law_way", "_law_each", "_law_upper", "_law_lower"]
structure CManner (P : Program) (w : World) (K : PySem.W.Frag) (mg : Str → Option Value) (base : Heap) : Prop where
  t : Bare mg
  drawn : Callee P w K mg base "_law_drawn" ["_law_script", "_law_k", "_law_many"] 2 3 gDrawn
theorem sc_manner : FnScope nManner ["_law_script", "_law_at"] (defScope sManner) := ⟨rfl, rfl, rfl, by decide +kernel, rfl, by decide +kernel, by decide +kernel⟩
noncomputable def four (a b c d : Int) : PyData := .tuple [.int a, .int b, .int c, .int d]
noncomputable def known1 : List PyData := [four 1 5 4 10, four 2 5 5 10, four 0 1 9 10, four 1 5 5 10, four 0 1 10 10, four 1 2 1 4, four 0 1 1 2]
noncomputable def known2 : List PyData := [four 1 4 3 8, four 1 3 2 5, four 3 4 3 16, four 2 3 2 7, four 1 1 1 3]
noncomputable def bManner : { B : Rho → Option Out // Body CManner "_law_manner" sManner nManner 2 B } :=
  ⟨_, fun P w K mg base f cdv A outer s H E C hr =>
    pssd_cons (psd_set 2 sc_manner.nd (pd_lit 3 (.list known1) (by kernel_rfl)))
    (pssd_cons (psd_set 2 sc_manner.nd (pd_bin opd_add (pd_var 2) (pd_lit 3 (.list known2) (by kernel_rfl))))
    (pssd_cons (psd_set 3 sc_manner.nd (pd_callC C.drawn hr (Nat.le_refl _) (pad_cons (pd_var 0) (pad_cons (pd_var 1) (pad_cons (pd_bin opd_mul pd_int (pd_callB cd_len C.t.len bt_len (pad_cons (pd_var 2) pad_nil))) pad_nil))) (len_cons (len_cons (len_cons len_nil)))))
    (pssd_cons (psd_if (ptd_cmp opd_lt (pd_var 3) (pd_callB cd_len C.t.len bt_len (pad_cons (pd_var 2) pad_nil))) (pssd_cons (psd_ret (pd_ix (pd_var 2) (pd_var 3))) pssd_nil) pssd_nil)
    (pssd_cons (psd_set 4 sc_manner.nd (pd_bin opd_add pd_int (pd_callC C.drawn hr (Nat.le_refl _) (pad_cons (pd_var 0) (pad_cons (pd_bin opd_add (pd_var 1) pd_int) (pad_cons pd_int pad_nil))) (len_cons (len_cons (len_cons len_nil))))))
    (pssd_cons (psd_set 5 sc_manner.nd (pd_callC C.drawn hr (Nat.le_refl _) (pad_cons (pd_var 0) (pad_cons (pd_bin opd_add (pd_var 1) pd_int) (pad_cons pd_int pad_nil))) (len_cons (len_cons (len_cons len_nil)))))
    (pssd_cons (psd_set 6 sc_manner.nd (pd_bin opd_add (pd_callB (cd_max2 rfl) C.t.max bt_max (pad_cons (pd_bin opd_sub (pd_var 4) pd_int) (pad_cons pd_int pad_nil))) (pd_callC C.drawn hr (Nat.le_refl _) (pad_cons (pd_var 0) (pad_cons (pd_bin opd_add (pd_var 1) pd_int) (pad_cons pd_int pad_nil))) (len_cons (len_cons (len_cons len_nil))))))
    (pssd_cons (psd_ret (pd_tup (pad_cons (pd_var 5) (pad_cons (pd_var 4) (pad_cons (pd_var 6) (pad_cons (pd_bin opd_add pd_int (pd_callC C.drawn hr (Nat.le_refl _) (pad_cons (pd_var 0) (pad_cons (pd_bin opd_add (pd_var 1) pd_int) (pad_cons (pd_callB (cd_min2 rfl) C.t.min bt_min (pad_cons pd_int (pad_cons (pd_bin opd_add (pd_bin opd_mul (pd_var 5) (pd_var 4)) (pd_var 6)) pad_nil))) pad_nil))) (len_cons (len_cons (len_cons len_nil))))) pad_nil)))))) pssd_nil)))))))⟩
noncomputable def gManner : List PyData → Option PyData := bodyD nManner 2 bManner.1
structure CSetting (P : Program) (w : World) (K : PySem.W.Frag) (mg : Str → Option Value) (base : Heap) : Prop where
  t : Bare mg
  drawn : Callee P w K mg base "_law_drawn" ["_law_script", "_law_k", "_law_many"] 2 3 gDrawn
noncomputable abbrev nSet : List Str := ["_law_script", "_law_at", "_law_manner_here", "_law_most", "_law_rods_here", "_law_found", "_law_k", "_law_rod"]
theorem sc_set : FnScope nSet ["_law_script", "_law_at", "_law_manner_here", "_law_most"] (defScope sSetting) := ⟨rfl, rfl, rfl, by decide +kernel, rfl, by decide +kernel, by decide +kernel⟩
noncomputable def bSetIn : { B : Rho → Option Out // BodyS CSetting "_law_setting" sSetting nSet 2 (forBody (nthS (defBody sSetting) 2)) B } :=
  ⟨_, fun P w K mg base f cdv A outer s H E C hr =>
    (pssd_cons (psd_set 7 sc_set.nd (pd_tup (pad_cons (pd_callC C.drawn hr (by decide) (pad_cons (pd_var 0) (pad_cons (pd_bin opd_add (pd_bin opd_add (pd_var 1) pd_int) (pd_bin opd_mul pd_int (pd_var 6))) (pad_cons (pd_bin opd_add (pd_ix (pd_var 2) pd_int) pd_int) pad_nil))) (len_cons (len_cons (len_cons len_nil)))) (pad_cons (pd_callC C.drawn hr (by decide) (pad_cons (pd_var 0) (pad_cons (pd_bin opd_add (pd_bin opd_add (pd_var 1) pd_int) (pd_bin opd_mul pd_int (pd_var 6))) (pad_cons (pd_bin opd_add (pd_ix (pd_var 2) pd_int) pd_int) pad_nil))) (len_cons (len_cons (len_cons len_nil)))) pad_nil))))
    (pssd_cons (psd_set 5 sc_set.nd (pd_bin opd_add (pd_var 5) (pd_tup (pad_cons (pd_var 7) pad_nil))))
    pssd_nil))⟩
noncomputable def bSet : { B : Rho → Option Out // Body CSetting "_law_setting" sSetting nSet 2 B } :=
  ⟨_, fun P w K mg base f cdv A outer s H E C hr =>
    (pssd_cons (psd_set 4 sc_set.nd (pd_bin opd_add pd_int (pd_callC C.drawn hr (by decide) (pad_cons (pd_var 0) (pad_cons (pd_var 1) (pad_cons (pd_var 3) pad_nil))) (len_cons (len_cons (len_cons len_nil))))))
    (pssd_cons (psd_set 5 sc_set.nd (pd_tup pad_nil))
    (pssd_cons (psd_for PassesOwn.never rfl (pid_range1 rfl C.t.range (pad_cons (pd_var 4) pad_nil)) (pgd_name 6 sc_set.nd) (bSetIn.2 P w K mg base f cdv A outer s H E C hr))
    (pssd_cons (psd_ret (pd_var 5))
    pssd_nil))))⟩
noncomputable def gSet : List PyData → Option PyData := bodyD nSet 4 bSet.1
end Rods
namespace Rods
open PySem L2 BX
open PyProof.Rows hiding St
noncomputable abbrev errNames : List Str := ["NoManner", "NoSetting", "NoNumber", "NoMove", "TooGreat", "Nothing"]
noncomputable abbrev sNamesBeads : Stmt := top 28
structure CNamesBeads (P : Program) (w : World) (K : PySem.W.Frag) (mg : Str → Option Value) (base : Heap) : Prop where
  t : Bare mg
  c_isWhole : Callee P w K mg base "is_whole" ["thing", "least", "most"] 1 3 gIsWhole
  k_DECKS : GC K mg "DECKS" (.tuple [.str "upper", .str "lower"])
noncomputable abbrev nNamesBeads : List Str := ["setting", "thing"]
theorem sc_NamesBeads : FnScope nNamesBeads ["setting", "thing"] (defScope sNamesBeads) := ⟨rfl, rfl, rfl, by decide +kernel, rfl, by decide +kernel, by decide +kernel⟩
noncomputable def bNamesBeads : { B : Rho → Option Out // Body CNamesBeads "names_beads" sNamesBeads nNamesBeads 1 B } :=
  ⟨_, fun P w K mg base f cdv A outer s H E C hr =>
    (pssd_cons (psd_if (ptd_bool (pwd_or (ptd_not (ptd_val (pd_isi (.inr (.inr rfl)) C.t.isi C.t.tuple bt_tuple (pd_var 1)))) (pwd_or1 (ptd_cmp (opd_ne hr.units) (pd_callB cd_len C.t.len bt_len (pad_cons (pd_var 1) pad_nil)) pd_int)))) (pssd_cons (psd_ret pd_bl)
    pssd_nil) pssd_nil)
    (pssd_cons (psd_if (ptd_bool (pwd_or (ptd_not (ptd_val (pd_callC C.c_isWhole hr (by decide) (pad_cons (pd_ix (pd_var 1) pd_int) (pad_cons pd_int (pad_cons (pd_bin opd_sub (pd_callB cd_len C.t.len bt_len (pad_cons (pd_var 0) pad_nil)) pd_int) pad_nil))) (len_cons (len_cons (len_cons len_nil)))))) (pwd_or1 (ptd_cmp (opd_notIn hr.units) (pd_ix (pd_var 1) pd_int) (pd_gc C.k_DECKS))))) (pssd_cons (psd_ret pd_bl)
    pssd_nil) pssd_nil)
    (pssd_cons (psd_ret (pd_and (pd_callC C.c_isWhole hr (by decide) (pad_cons (pd_ix (pd_var 1) pd_int) (pad_cons (pd_neg pd_int) (pad_cons pd_int pad_nil))) (len_cons (len_cons (len_cons len_nil)))) (pd_one (pd_cmp (opd_ne hr.units) (pd_ix (pd_var 1) pd_int) pd_int))))
    pssd_nil)))⟩
noncomputable def gNamesBeads : List PyData → Option PyData := bodyD nNamesBeads 2 bNamesBeads.1
noncomputable abbrev sPushed : Stmt := top 29
structure CPushed (P : Program) (w : World) (K : PySem.W.Frag) (mg : Str → Option Value) (base : Heap) : Prop where
  tr : True
noncomputable abbrev nPushed : List Str := ["rod", "deck", "by"]
theorem sc_Pushed : FnScope nPushed ["rod", "deck", "by"] (defScope sPushed) := ⟨rfl, rfl, rfl, by decide +kernel, rfl, by decide +kernel, by decide +kernel⟩
noncomputable def bPushed : { B : Rho → Option Out // Body CPushed "pushed" sPushed nPushed 0 B } :=
  ⟨_, fun P w K mg base f cdv A outer s H E C hr =>
    (pssd_cons (psd_if (ptd_cmp (opd_eq hr.units) (pd_var 1) pd_str) (pssd_cons (psd_ret (pd_tup (pad_cons (pd_bin opd_add (pd_ix (pd_var 0) pd_int) (pd_var 2)) (pad_cons (pd_ix (pd_var 0) pd_int) pad_nil))))
    pssd_nil) pssd_nil)
    (pssd_cons (psd_ret (pd_tup (pad_cons (pd_ix (pd_var 0) pd_int) (pad_cons (pd_bin opd_add (pd_ix (pd_var 0) pd_int) (pd_var 2)) pad_nil))))
    pssd_nil))⟩
noncomputable def gPushed : List PyData → Option PyData := bodyD nPushed 3 bPushed.1
noncomputable abbrev sCanMove : Stmt := top 27
structure CCanMove (P : Program) (w : World) (K : PySem.W.Frag) (mg : Str → Option Value) (base : Heap) : Prop where
  c_NamesBeads : Callee P w K mg base "names_beads" ["setting", "thing"] 2 2 gNamesBeads
  c_isRod : Callee P w K mg base "is_rod" ["manner", "thing"] 2 2 gIsRod
  c_Pushed : Callee P w K mg base "pushed" ["rod", "deck", "by"] 1 3 gPushed
noncomputable abbrev nCanMove : List Str := ["manner", "setting", "thing"]
theorem sc_CanMove : FnScope nCanMove ["manner", "setting", "thing"] (defScope sCanMove) := ⟨rfl, rfl, rfl, by decide +kernel, rfl, by decide +kernel, by decide +kernel⟩
noncomputable def bCanMove : { B : Rho → Option Out // Body CCanMove "can_move" sCanMove nCanMove 2 B } :=
  ⟨_, fun P w K mg base f cdv A outer s H E C hr =>
    (pssd_cons (psd_if (ptd_not (ptd_val (pd_callC C.c_NamesBeads hr (by decide) (pad_cons (pd_var 1) (pad_cons (pd_var 2) pad_nil)) (len_cons (len_cons len_nil))))) (pssd_cons (psd_ret pd_bl)
    pssd_nil) pssd_nil)
    (pssd_cons (psd_ret (pd_callC C.c_isRod hr (by decide) (pad_cons (pd_var 0) (pad_cons (pd_callC C.c_Pushed hr (by decide) (pad_cons (pd_ix (pd_var 1) (pd_ix (pd_var 2) pd_int)) (pad_cons (pd_ix (pd_var 2) pd_int) (pad_cons (pd_ix (pd_var 2) pd_int) pad_nil))) (len_cons (len_cons (len_cons len_nil)))) pad_nil)) (len_cons (len_cons len_nil))))
    pssd_nil))⟩
noncomputable def gCanMove : List PyData → Option PyData := bodyD nCanMove 3 bCanMove.1
noncomputable abbrev sIsMove : Stmt := top 26
structure CIsMove (P : Program) (w : World) (K : PySem.W.Frag) (mg : Str → Option Value) (base : Heap) : Prop where
  c_chkSet : Callee P w K mg base "check_setting" ["manner", "thing"] 6 2 gChkSet
  c_CanMove : Callee P w K mg base "can_move" ["manner", "setting", "thing"] 3 3 gCanMove
noncomputable abbrev nIsMove : List Str := ["manner", "setting", "thing"]
theorem sc_IsMove : FnScope nIsMove ["manner", "setting", "thing"] (defScope sIsMove) := ⟨rfl, rfl, rfl, by decide +kernel, rfl, by decide +kernel, by decide +kernel⟩
noncomputable def bIsMove : { B : Rho → Option Out // Body CIsMove "is_move" sIsMove nIsMove 6 B } :=
  ⟨_, fun P w K mg base f cdv A outer s H E C hr =>
    (pssd_cons (psd_expr (pd_callC C.c_chkSet hr (by decide) (pad_cons (pd_var 0) (pad_cons (pd_var 1) pad_nil)) (len_cons (len_cons len_nil))))
    (pssd_cons (psd_ret (pd_callC C.c_CanMove hr (by decide) (pad_cons (pd_var 0) (pad_cons (pd_var 1) (pad_cons (pd_var 2) pad_nil))) (len_cons (len_cons (len_cons len_nil)))))
    pssd_nil))⟩
noncomputable def gIsMove : List PyData → Option PyData := bodyD nIsMove 3 bIsMove.1
noncomputable abbrev sBehindMove : Stmt := top 30
structure CBehindMove (P : Program) (w : World) (K : PySem.W.Frag) (mg : Str → Option Value) (base : Heap) : Prop where
  c_Pushed : Callee P w K mg base "pushed" ["rod", "deck", "by"] 1 3 gPushed
noncomputable abbrev nBehindMove : List Str := ["setting", "move", "at"]
theorem sc_BehindMove : FnScope nBehindMove ["setting", "move"] (defScope sBehindMove) := ⟨rfl, rfl, rfl, by decide +kernel, rfl, by decide +kernel, by decide +kernel⟩
noncomputable def bBehindMove : { B : Rho → Option Out // Body CBehindMove "behind_move" sBehindMove nBehindMove 1 B } :=
  ⟨_, fun P w K mg base f cdv A outer s H E C hr =>
    (pssd_cons (psd_set 2 sc_BehindMove.nd (pd_ix (pd_var 1) pd_int))
    (pssd_cons (psd_ret (pd_bin opd_add (pd_bin opd_add (pd_slaTo (pd_var 0) (pd_var 2)) (pd_tup (pad_cons (pd_callC C.c_Pushed hr (by decide) (pad_cons (pd_ix (pd_var 0) (pd_var 2)) (pad_cons (pd_ix (pd_var 1) pd_int) (pad_cons (pd_ix (pd_var 1) pd_int) pad_nil))) (len_cons (len_cons (len_cons len_nil)))) pad_nil))) (pd_slaFrom (pd_var 0) (pd_bin opd_add (pd_var 2) pd_int))))
    pssd_nil))⟩
noncomputable def gBehindMove : List PyData → Option PyData := bodyD nBehindMove 2 bBehindMove.1
noncomputable abbrev sMoved : Stmt := top 31
structure CMoved (P : Program) (w : World) (K : PySem.W.Frag) (mg : Str → Option Value) (base : Heap) : Prop where
  c_chkSet : Callee P w K mg base "check_setting" ["manner", "thing"] 6 2 gChkSet
  c_CanMove : Callee P w K mg base "can_move" ["manner", "setting", "thing"] 3 3 gCanMove
  c_BehindMove : Callee P w K mg base "behind_move" ["setting", "move"] 2 2 gBehindMove
noncomputable abbrev nMoved : List Str := ["manner", "setting", "move"]
theorem sc_Moved : FnScope nMoved ["manner", "setting", "move"] (defScope sMoved) := ⟨rfl, rfl, rfl, by decide +kernel, rfl, by decide +kernel, by decide +kernel⟩
noncomputable def bMoved : { B : Rho → Option Out // Body CMoved "moved" sMoved nMoved 6 B } :=
  ⟨_, fun P w K mg base f cdv A outer s H E C hr =>
    (pssd_cons (psd_expr (pd_callC C.c_chkSet hr (by decide) (pad_cons (pd_var 0) (pad_cons (pd_var 1) pad_nil)) (len_cons (len_cons len_nil))))
    (pssd_cons (psd_if (ptd_not (ptd_val (pd_callC C.c_CanMove hr (by decide) (pad_cons (pd_var 0) (pad_cons (pd_var 1) (pad_cons (pd_var 2) pad_nil))) (len_cons (len_cons (len_cons len_nil)))))) (pssd_cons psd_never
    pssd_nil) pssd_nil)
    (pssd_cons (psd_ret (pd_callC C.c_BehindMove hr (by decide) (pad_cons (pd_var 1) (pad_cons (pd_var 2) pad_nil)) (len_cons (len_cons len_nil))))
    pssd_nil)))⟩
noncomputable def gMoved : List PyData → Option PyData := bodyD nMoved 3 bMoved.1
noncomputable abbrev sAllMoves : Stmt := top 32
structure CAllMoves (P : Program) (w : World) (K : PySem.W.Frag) (mg : Str → Option Value) (base : Heap) : Prop where
  t : Bare mg
  c_chkSet : Callee P w K mg base "check_setting" ["manner", "thing"] 6 2 gChkSet
  c_CanMove : Callee P w K mg base "can_move" ["manner", "setting", "thing"] 3 3 gCanMove
  k_DECKS : GC K mg "DECKS" (.tuple [.str "upper", .str "lower"])
  k_WAYS : GC K mg "WAYS" (.tuple [.int 1, .int (-1)])
noncomputable abbrev nAllMoves : List Str := ["manner", "setting", "told", "rod", "deck", "several"]
theorem sc_AllMoves : FnScope nAllMoves ["manner", "setting"] (defScope sAllMoves) := ⟨rfl, rfl, rfl, by decide +kernel, rfl, by decide +kernel, by decide +kernel⟩
theorem nd_k20_0 : (["by", "rod", "deck"] : List Str).Nodup := by decide +kernel
theorem nd_k20_1 : (["move", "manner", "setting"] : List Str).Nodup := by decide +kernel
noncomputable def bAllMoves2 : { B : Rho → Option Out // BodyO 2 CAllMoves "all_moves" sAllMoves nAllMoves 6 (forBody (nthS (forBody (nthS (defBody sAllMoves) 2)) 0)) B } :=
  ⟨_, fun P w K mg base f cdv A outer s H E C hr =>
    (psso_cons (pso_setC 5 ["by", "rod", "deck"] [none, some 3, some 4] rfl sc_AllMoves.nd (pid_seq (pd_gc C.k_WAYS)) (comp_ok (defScope sAllMoves) nAllMoves (by decide +kernel))
      fun cl C' s0 H0 fp pn => ⟨(pgd_name 0 nd_k20_0), ptsd_nil, (pd_tup (pad_cons (pd_var 1) (pad_cons (pd_var 2) (pad_cons (pd_var 0) pad_nil))))⟩)
    (psso_cons (pso_mut (pe_extend 2 (pd_comp ["move", "manner", "setting"] [none, some 0, some 1] rfl (pid_seq (pd_var 5)) (comp_ok (defScope sAllMoves) nAllMoves (by decide +kernel))
      fun cl C' s0 H0 fp pn => ⟨(pgd_name 0 nd_k20_1), (ptsd_one (ptd_val (pd_callC C.c_CanMove hr (by decide) (pad_cons (pd_var 1) (pad_cons (pd_var 2) (pad_cons (pd_var 0) pad_nil))) (len_cons (len_cons (len_cons len_nil)))))), (pd_var 0)⟩)))
    psso_nil))⟩
noncomputable def bAllMoves1 : { B : Rho → Option Out // BodyO 2 CAllMoves "all_moves" sAllMoves nAllMoves 6 (forBody (nthS (defBody sAllMoves) 2)) B } :=
  ⟨_, fun P w K mg base f cdv A outer s H E C hr =>
    (psso_cons (pso_for PassesOwn.never rfl (pid_seq (pd_gc C.k_DECKS)) (pgo_name 4 sc_AllMoves.nd) (bAllMoves2.2 P w K mg base f cdv A outer s H E C hr))
    psso_nil)⟩
noncomputable def bAllMoves : { B : Rho → Option Out // Body CAllMoves "all_moves" sAllMoves nAllMoves 6 B } :=
  ⟨_, fun P w K mg base f cdv A outer s H E C hr =>
    (pssd_cons (psd_expr (pd_callC C.c_chkSet hr (by decide) (pad_cons (pd_var 0) (pad_cons (pd_var 1) pad_nil)) (len_cons (len_cons len_nil))))
    (psso_toD (psso_new 2 sc_AllMoves.nd (pn_lst pad_nil)
    (psso_cons (pso_for PassesOwn.never rfl (pid_range1 rfl C.t.range (pad_cons (pd_callB cd_len C.t.len bt_len (pad_cons (pd_var 1) pad_nil)) pad_nil)) (pgo_name 3 sc_AllMoves.nd) (bAllMoves1.2 P w K mg base f cdv A outer s H E C hr))
    (psso_cons (pso_ret (pd_var 2))
    psso_nil)))))⟩
noncomputable def gAllMoves : List PyData → Option PyData := bodyD nAllMoves 2 bAllMoves.1
noncomputable abbrev sRun : Stmt := top 33
structure CRun (P : Program) (w : World) (K : PySem.W.Frag) (mg : Str → Option Value) (base : Heap) : Prop where
  t : Bare mg
  c_chkSet : Callee P w K mg base "check_setting" ["manner", "thing"] 6 2 gChkSet
  c_Moved : Callee P w K mg base "moved" ["manner", "setting", "move"] 7 3 gMoved
noncomputable abbrev nRun : List Str := ["manner", "setting", "moves", "now", "move"]
theorem sc_Run : FnScope nRun ["manner", "setting", "moves"] (defScope sRun) := ⟨rfl, rfl, rfl, by decide +kernel, rfl, by decide +kernel, by decide +kernel⟩
noncomputable def bRun1 : { B : Rho → Option Out // BodyS CRun "run" sRun nRun 7 (forBody (nthS (defBody sRun) 3)) B } :=
  ⟨_, fun P w K mg base f cdv A outer s H E C hr =>
    (pssd_cons (psd_set 3 sc_Run.nd (pd_callC C.c_Moved hr (by decide) (pad_cons (pd_var 0) (pad_cons (pd_var 3) (pad_cons (pd_var 4) pad_nil))) (len_cons (len_cons (len_cons len_nil)))))
    pssd_nil)⟩
noncomputable def bRun : { B : Rho → Option Out // Body CRun "run" sRun nRun 7 B } :=
  ⟨_, fun P w K mg base f cdv A outer s H E C hr =>
    (pssd_cons (psd_expr (pd_callC C.c_chkSet hr (by decide) (pad_cons (pd_var 0) (pad_cons (pd_var 1) pad_nil)) (len_cons (len_cons len_nil))))
    (pssd_cons (psd_if (ptd_not (ptd_val (pd_isiL rfl C.t.isi C.t.list bt_list (pd_var 2)))) (pssd_cons psd_never
    pssd_nil) pssd_nil)
    (pssd_cons (psd_set 3 sc_Run.nd (pd_var 1))
    (pssd_cons (psd_for PassesOwn.never rfl (pid_seq (pd_var 2)) (pgd_name 4 sc_Run.nd) (bRun1.2 P w K mg base f cdv A outer s H E C hr))
    (pssd_cons (psd_ret (pd_var 3))
    pssd_nil)))))⟩
noncomputable def gRun : List PyData → Option PyData := bodyD nRun 3 bRun.1
structure XCheck (P : Program) (w : World) (K : PySem.W.Frag) (mg : Str → Option Value) (base : Heap) : Prop where
  c_isManner : Callee P w K mg base "is_manner" ["thing"] 3 1 gIsManner
  e_NoManner : ErrK K mg "NoManner"
noncomputable def xCheck : { F : Rho → Option Str // BodyT XCheck "check_manner" sCheck ["thing"] 3 F } :=
  ⟨_, fun P w K mg base f cdv A outer s H E C hr =>
    (pssx_here (psx_if (ptd_not (ptd_val (pd_callC C.c_isManner hr (by decide) (pad_cons (pd_var 0) pad_nil) (len_cons len_nil)))) (pssx_here (psx_raise rfl C.e_NoManner rfl)) pssx_never))⟩
noncomputable def tCheck : List PyData → Option Str := bodyX ["thing"] 1 xCheck.1
structure XIsSet (P : Program) (w : World) (K : PySem.W.Frag) (mg : Str → Option Value) (base : Heap) : Prop where
  x_check : ThrC P w K mg base "check_manner" ["thing"] 4 1 tCheck
noncomputable def xIsSet : { F : Rho → Option Str // BodyT XIsSet "is_setting" sIsSetting ["manner", "thing"] 4 F } :=
  ⟨_, fun P w K mg base f cdv A outer s H E C hr =>
    (pssx_here (psx_expr (pdx_call rfl C.x_check hr (by decide) (pad_cons (pd_var 0) pad_nil) (len_cons len_nil))))⟩
noncomputable def tIsSet : List PyData → Option Str := bodyX ["manner", "thing"] 2 xIsSet.1
structure XChkSet (P : Program) (w : World) (K : PySem.W.Frag) (mg : Str → Option Value) (base : Heap) : Prop where
  c_isSet : Callee P w K mg base "is_setting" ["manner", "thing"] 5 2 gIsSet
  x_isSet : ThrC P w K mg base "is_setting" ["manner", "thing"] 5 2 tIsSet
  e_NoSetting : ErrK K mg "NoSetting"
noncomputable def xChkSet : { F : Rho → Option Str // BodyT XChkSet "check_setting" sCheckSetting ["manner", "thing"] 5 F } :=
  ⟨_, fun P w K mg base f cdv A outer s H E C hr =>
    (pssx_here (psx_or (psx_ifT (ptx_not (ptx_val (pdx_call rfl C.x_isSet hr (by decide) (pad_cons (pd_var 0) (pad_cons (pd_var 1) pad_nil)) (len_cons (len_cons len_nil)))))) (psx_if (ptd_not (ptd_val (pd_callC C.c_isSet hr (by decide) (pad_cons (pd_var 0) (pad_cons (pd_var 1) pad_nil)) (len_cons (len_cons len_nil))))) (pssx_here (psx_raise rfl C.e_NoSetting rfl)) pssx_never)))⟩
noncomputable def tChkSet : List PyData → Option Str := bodyX ["manner", "thing"] 2 xChkSet.1
structure XIsMove (P : Program) (w : World) (K : PySem.W.Frag) (mg : Str → Option Value) (base : Heap) : Prop where
  x_chkSet : ThrC P w K mg base "check_setting" ["manner", "thing"] 6 2 tChkSet
noncomputable def xIsMove : { F : Rho → Option Str // BodyT XIsMove "is_move" sIsMove nIsMove 6 F } :=
  ⟨_, fun P w K mg base f cdv A outer s H E C hr =>
    (pssx_here (psx_expr (pdx_call rfl C.x_chkSet hr (by decide) (pad_cons (pd_var 0) (pad_cons (pd_var 1) pad_nil)) (len_cons (len_cons len_nil)))))⟩
noncomputable def tIsMove : List PyData → Option Str := bodyX nIsMove 3 xIsMove.1
structure XMoved (P : Program) (w : World) (K : PySem.W.Frag) (mg : Str → Option Value) (base : Heap) : Prop where
  c_CanMove : Callee P w K mg base "can_move" ["manner", "setting", "thing"] 3 3 gCanMove
  c_chkSet : Callee P w K mg base "check_setting" ["manner", "thing"] 6 2 gChkSet
  x_chkSet : ThrC P w K mg base "check_setting" ["manner", "thing"] 6 2 tChkSet
  e_NoMove : ErrK K mg "NoMove"
noncomputable def xMoved : { F : Rho → Option Str // BodyT XMoved "moved" sMoved nMoved 6 F } :=
  ⟨_, fun P w K mg base f cdv A outer s H E C hr =>
    (pssx_or (pssx_here (psx_expr (pdx_call rfl C.x_chkSet hr (by decide) (pad_cons (pd_var 0) (pad_cons (pd_var 1) pad_nil)) (len_cons (len_cons len_nil))))) (pssx_next (psd_expr (pd_callC C.c_chkSet hr (by decide) (pad_cons (pd_var 0) (pad_cons (pd_var 1) pad_nil)) (len_cons (len_cons len_nil))))
    (pssx_here (psx_if (ptd_not (ptd_val (pd_callC C.c_CanMove hr (by decide) (pad_cons (pd_var 0) (pad_cons (pd_var 1) (pad_cons (pd_var 2) pad_nil))) (len_cons (len_cons (len_cons len_nil)))))) (pssx_here (psx_raise rfl C.e_NoMove rfl)) pssx_never))))⟩
noncomputable def tMoved : List PyData → Option Str := bodyX nMoved 3 xMoved.1
structure XAllMoves (P : Program) (w : World) (K : PySem.W.Frag) (mg : Str → Option Value) (base : Heap) : Prop where
  x_chkSet : ThrC P w K mg base "check_setting" ["manner", "thing"] 6 2 tChkSet
noncomputable def xAllMoves : { F : Rho → Option Str // BodyT XAllMoves "all_moves" sAllMoves nAllMoves 6 F } :=
  ⟨_, fun P w K mg base f cdv A outer s H E C hr =>
    (pssx_here (psx_expr (pdx_call rfl C.x_chkSet hr (by decide) (pad_cons (pd_var 0) (pad_cons (pd_var 1) pad_nil)) (len_cons (len_cons len_nil)))))⟩
noncomputable def tAllMoves : List PyData → Option Str := bodyX nAllMoves 2 xAllMoves.1
structure XRun (P : Program) (w : World) (K : PySem.W.Frag) (mg : Str → Option Value) (base : Heap) : Prop where
  t : Bare mg
  c_Moved : Callee P w K mg base "moved" ["manner", "setting", "move"] 7 3 gMoved
  c_chkSet : Callee P w K mg base "check_setting" ["manner", "thing"] 6 2 gChkSet
  x_chkSet : ThrC P w K mg base "check_setting" ["manner", "thing"] 6 2 tChkSet
  x_Moved : ThrC P w K mg base "moved" ["manner", "setting", "move"] 7 3 tMoved
  e_NoMove : ErrK K mg "NoMove"
noncomputable def xRun : { F : Rho → Option Str // BodyT XRun "run" sRun nRun 7 F } :=
  ⟨_, fun P w K mg base f cdv A outer s H E C hr =>
    (pssx_or (pssx_here (psx_expr (pdx_call rfl C.x_chkSet hr (by decide) (pad_cons (pd_var 0) (pad_cons (pd_var 1) pad_nil)) (len_cons (len_cons len_nil))))) (pssx_next (psd_expr (pd_callC C.c_chkSet hr (by decide) (pad_cons (pd_var 0) (pad_cons (pd_var 1) pad_nil)) (len_cons (len_cons len_nil))))
    (pssx_or (pssx_here (psx_if (ptd_not (ptd_val (pd_isiL rfl C.t.isi C.t.list bt_list (pd_var 2)))) (pssx_here (psx_raise rfl C.e_NoMove rfl)) pssx_never)) (pssx_next (psd_if (ptd_not (ptd_val (pd_isiL rfl C.t.isi C.t.list bt_list (pd_var 2)))) (pssd_cons psd_never
    pssd_nil) pssd_nil)
    (pssx_next (psd_set 3 sc_Run.nd (pd_var 1))
    (pssx_here (psx_ofO (psox_for top_cx rfl (fun W => (pid_seq (pd_var 2))) (fun W => (pgo_name 4 sc_Run.nd)) (fun W => psso_ofD (pssd_cons (psd_set 3 sc_Run.nd (pd_callC C.c_Moved hr (by decide) (pad_cons (pd_var 0) (pad_cons (pd_var 3) (pad_cons (pd_var 4) pad_nil))) (len_cons (len_cons (len_cons len_nil)))))
    pssd_nil)) (fun W => pssox_ofX (pssx_here (psx_set (pdx_call rfl C.x_Moved hr (by decide) (pad_cons (pd_var 0) (pad_cons (pd_var 3) (pad_cons (pd_var 4) pad_nil))) (len_cons (len_cons (len_cons len_nil)))))))))))))))⟩
noncomputable def tRun : List PyData → Option Str := bodyX nRun 3 xRun.1
noncomputable abbrev sLRefused : Stmt := top 43
structure CLRefused (P : Program) (w : World) (K : PySem.W.Frag) (mg : Str → Option Value) (base : Heap) : Prop where
  t : Bare mg
  errT : ErrT K mg "BeadError" errNames
noncomputable abbrev nLRefused : List Str := ["_law_e", "_law_flags"]
theorem sc_LRefused : FnScope nLRefused ["_law_e"] (defScope sLRefused) := ⟨rfl, rfl, rfl, by decide +kernel, rfl, by decide +kernel, by decide +kernel⟩
noncomputable def bLRefused : { B : Rho → Option Out // ∀ (P : Program) (w : World) (K : PySem.W.Frag) (mg : Str → Option Value) (base : Heap) (f : Addr) (cdv : Value) (A : Around) (outer : List Env) (s : Shared) (H : Hp) (E : XK), CLRefused P w K mg base → RoomH 0 (A.deeper (envOfC "_law_refused" (defScope sLRefused) s.heap.objs.size f cdv)) →
    PSsD (cxH P w K mg base nLRefused "_law_refused" (defScope sLRefused) f cdv A outer s H E) (defBody sLRefused) B } :=
  ⟨_, fun P w K mg base f cdv A outer s H E C hr =>
    (pssd_cons (psd_set 1 sc_LRefused.nd (pd_lst (pad_cons (pd_isiE C.errT C.t.isi (pd_var 0)) (pad_cons (pd_isiE C.errT C.t.isi (pd_var 0)) (pad_cons (pd_isiE C.errT C.t.isi (pd_var 0)) pad_nil)))))
    (pssd_cons (psd_set 1 sc_LRefused.nd (pd_bin opd_add (pd_var 1) (pd_lst (pad_cons (pd_isiE C.errT C.t.isi (pd_var 0)) (pad_cons (pd_isiE C.errT C.t.isi (pd_var 0)) (pad_cons (pd_isiE C.errT C.t.isi (pd_var 0)) pad_nil))))))
    (pssd_cons (psd_if (ptd_bool (pwd_or (ptd_cmp (opd_ne hr.units) (pd_countB (pd_var 1) pd_bl) pd_int) (pwd_or1 (ptd_not (ptd_val (pd_isiV C.errT C.t.isi C.t.vale (pd_var 0))))))) (pssd_cons (psd_ret (pd_tup (pad_cons pd_str (pad_cons (pd_neg pd_int) pad_nil))))
    pssd_nil) pssd_nil)
    (pssd_cons (psd_ret (pd_tup (pad_cons pd_str (pad_cons (pd_indexB (pd_var 1) pd_bl) pad_nil))))
    pssd_nil))))⟩
noncomputable def gLRefused : List PyData → Option PyData := bodyD nLRefused 1 bLRefused.1
noncomputable abbrev sLTold : Stmt := top 44
structure CLTold (P : Program) (w : World) (K : PySem.W.Frag) (mg : Str → Option Value) (base : Heap) : Prop where
  c_IsMove : Callee P w K mg base "is_move" ["manner", "setting", "thing"] 7 3 gIsMove
  c_Moved : Callee P w K mg base "moved" ["manner", "setting", "move"] 7 3 gMoved
  c_Run : Callee P w K mg base "run" ["manner", "setting", "moves"] 8 3 gRun
  c_AllMoves : Callee P w K mg base "all_moves" ["manner", "setting"] 7 2 gAllMoves
  k_is_move : GC K mg "is_move" (fnD "is_move")
  k_moved : GC K mg "moved" (fnD "moved")
  k_run : GC K mg "run" (fnD "run")
  x_IsMove : ThrC P w K mg base "is_move" ["manner", "setting", "thing"] 7 3 tIsMove
  x_Moved : ThrC P w K mg base "moved" ["manner", "setting", "move"] 7 3 tMoved
  x_Run : ThrC P w K mg base "run" ["manner", "setting", "moves"] 8 3 tRun
  x_AllMoves : ThrC P w K mg base "all_moves" ["manner", "setting"] 7 2 tAllMoves
  h_LRefused : CalleeH P w K mg base "_law_refused" ["_law_e"] 1 1 gLRefused
  errT : ErrT K mg "BeadError" errNames
noncomputable abbrev nLTold : List Str := ["_law_way", "_law_manner_here", "_law_setting_here", "_law_thing", "_law_e"]
theorem sc_LTold : FnScope nLTold ["_law_way", "_law_manner_here", "_law_setting_here", "_law_thing"] (defScope sLTold) := ⟨rfl, rfl, rfl, by decide +kernel, rfl, by decide +kernel, by decide +kernel⟩
noncomputable def bLTold : { B : Rho → Option Out // ∀ (P : Program) (w : World) (K : PySem.W.Frag) (mg : Str → Option Value) (base : Heap) (f : Addr) (cdv : Value) (A : Around) (outer : List Env) (s : Shared) (H : Hp) (E : XK), CLTold P w K mg base → Room 8 (A.deeper (envOfC "_law_told" (defScope sLTold) s.heap.objs.size f cdv)) →
    PSs0 (cxOf CX0 P w K mg base nLTold "_law_told" (defScope sLTold) f cdv A outer s H E) (defBody sLTold) B } :=
  ⟨_, fun P w K mg base f cdv A outer s H E C hr =>
    (pss0_cons (ps0_tryA (n := 5) 4 top_cx rfl sc_LTold.nd C.errT
      (fun E' => (pssd_cons (psd_if (ptd_cmp opd_lt (pd_var 0) pd_int) (pssd_cons (psd_ret (pd_orD (pd_callE C.c_IsMove hr (by decide) (pd_ix (pd_lst (pad_cons (pd_gc C.k_is_move) (pad_cons (pd_gc C.k_moved) (pad_cons (pd_gc C.k_run) pad_nil)))) (pd_var 0)) (pad_cons (pd_var 1) (pad_cons (pd_var 2) (pad_cons (pd_var 3) pad_nil))) (len_cons (len_cons (len_cons len_nil)))) (pd_orD (pd_callE C.c_Moved hr (by decide) (pd_ix (pd_lst (pad_cons (pd_gc C.k_is_move) (pad_cons (pd_gc C.k_moved) (pad_cons (pd_gc C.k_run) pad_nil)))) (pd_var 0)) (pad_cons (pd_var 1) (pad_cons (pd_var 2) (pad_cons (pd_var 3) pad_nil))) (len_cons (len_cons (len_cons len_nil)))) (pd_callE C.c_Run hr (by decide) (pd_ix (pd_lst (pad_cons (pd_gc C.k_is_move) (pad_cons (pd_gc C.k_moved) (pad_cons (pd_gc C.k_run) pad_nil)))) (pd_var 0)) (pad_cons (pd_var 1) (pad_cons (pd_var 2) (pad_cons (pd_var 3) pad_nil))) (len_cons (len_cons (len_cons len_nil)))))))
    pssd_nil) pssd_nil)
    (pssd_cons (psd_ret (pd_callC C.c_AllMoves hr (by decide) (pad_cons (pd_var 1) (pad_cons (pd_var 2) pad_nil)) (len_cons (len_cons len_nil))))
    pssd_nil)))
      (fun E' => (pssx_or (pssx_here (psx_if (ptd_cmp opd_lt (pd_var 0) pd_int) (pssx_here (psx_ret (pdx_or (pdx_callE rfl C.x_IsMove hr (by decide) (pd_ix (pd_lst (pad_cons (pd_gc C.k_is_move) (pad_cons (pd_gc C.k_moved) (pad_cons (pd_gc C.k_run) pad_nil)))) (pd_var 0)) (pad_cons (pd_var 1) (pad_cons (pd_var 2) (pad_cons (pd_var 3) pad_nil))) (len_cons (len_cons (len_cons len_nil)))) (pdx_or (pdx_callE rfl C.x_Moved hr (by decide) (pd_ix (pd_lst (pad_cons (pd_gc C.k_is_move) (pad_cons (pd_gc C.k_moved) (pad_cons (pd_gc C.k_run) pad_nil)))) (pd_var 0)) (pad_cons (pd_var 1) (pad_cons (pd_var 2) (pad_cons (pd_var 3) pad_nil))) (len_cons (len_cons (len_cons len_nil)))) (pdx_callE rfl C.x_Run hr (by decide) (pd_ix (pd_lst (pad_cons (pd_gc C.k_is_move) (pad_cons (pd_gc C.k_moved) (pad_cons (pd_gc C.k_run) pad_nil)))) (pd_var 0)) (pad_cons (pd_var 1) (pad_cons (pd_var 2) (pad_cons (pd_var 3) pad_nil))) (len_cons (len_cons (len_cons len_nil)))))))) pssx_never)) (pssx_next (psd_if (ptd_cmp opd_lt (pd_var 0) pd_int) (pssd_cons (psd_ret (pd_orD (pd_callE C.c_IsMove hr (by decide) (pd_ix (pd_lst (pad_cons (pd_gc C.k_is_move) (pad_cons (pd_gc C.k_moved) (pad_cons (pd_gc C.k_run) pad_nil)))) (pd_var 0)) (pad_cons (pd_var 1) (pad_cons (pd_var 2) (pad_cons (pd_var 3) pad_nil))) (len_cons (len_cons (len_cons len_nil)))) (pd_orD (pd_callE C.c_Moved hr (by decide) (pd_ix (pd_lst (pad_cons (pd_gc C.k_is_move) (pad_cons (pd_gc C.k_moved) (pad_cons (pd_gc C.k_run) pad_nil)))) (pd_var 0)) (pad_cons (pd_var 1) (pad_cons (pd_var 2) (pad_cons (pd_var 3) pad_nil))) (len_cons (len_cons (len_cons len_nil)))) (pd_callE C.c_Run hr (by decide) (pd_ix (pd_lst (pad_cons (pd_gc C.k_is_move) (pad_cons (pd_gc C.k_moved) (pad_cons (pd_gc C.k_run) pad_nil)))) (pd_var 0)) (pad_cons (pd_var 1) (pad_cons (pd_var 2) (pad_cons (pd_var 3) pad_nil))) (len_cons (len_cons (len_cons len_nil)))))))
    pssd_nil) pssd_nil)
    (pssx_here (psx_ret (pdx_call rfl C.x_AllMoves hr (by decide) (pad_cons (pd_var 1) (pad_cons (pd_var 2) pad_nil)) (len_cons (len_cons len_nil))))))))
      (fun e => (pssd_cons (psd_ret (pd_callH C.h_LRefused (RoomH.mark (BX.Room.h (hr.mono (j := 1) (by decide)))) (pad_cons (pd_var 4) pad_nil) (len_cons len_nil))) pssd_nil))) (pss0_of pssd_nil))⟩
noncomputable def gLTold : List PyData → Option PyData := bodyD nLTold 4 bLTold.1
noncomputable abbrev sLBehind : Stmt := top 45
structure CLBehind (P : Program) (w : World) (K : PySem.W.Frag) (mg : Str → Option Value) (base : Heap) : Prop where
  t : Bare mg
noncomputable abbrev nLBehind : List Str := ["_law_manner_here", "_law_setting_here", "_law_move", "_law_rod", "_law_deck", "_law_by", "_law_side", "_law_fresh"]
theorem sc_LBehind : FnScope nLBehind ["_law_manner_here", "_law_setting_here", "_law_move"] (defScope sLBehind) := ⟨rfl, rfl, rfl, by decide +kernel, rfl, by decide +kernel, by decide +kernel⟩
noncomputable def bLBehind : { B : Rho → Option Out // Body CLBehind "_law_behind" sLBehind nLBehind 0 B } :=
  ⟨_, fun P w K mg base f cdv A outer s H E C hr =>
    (pssd_cons (psd_if (ptd_bool (pwd_or (ptd_not (ptd_val (pd_isi (.inr (.inr rfl)) C.t.isi C.t.tuple bt_tuple (pd_var 2)))) (pwd_or1 (ptd_cmp (opd_ne hr.units) (pd_callB cd_len C.t.len bt_len (pad_cons (pd_var 2) pad_nil)) pd_int)))) (pssd_cons (psd_ret pd_non)
    pssd_nil) pssd_nil)
    (pssd_cons (psd_asg (pd_var 2) (pgd_tup (n := 3) rfl (pgsd_cons (pgd_name 3 sc_LBehind.nd) (pgsd_cons (pgd_name 4 sc_LBehind.nd) (pgsd_cons (pgd_name 5 sc_LBehind.nd) pgsd_nil)))))
    (pssd_cons (psd_if (ptd_bool (pwd_or (ptd_not (ptd_val (pd_isi (.inr (.inl rfl)) C.t.isi C.t.int bt_int (pd_var 3)))) (pwd_or (ptd_val (pd_isi (.inl rfl) C.t.isi C.t.bool bt_bool (pd_var 3))) (pwd_or1 (ptd_not (ptd_chain opd_le opd_lt pd_int (pd_var 3) (pd_callB cd_len C.t.len bt_len (pad_cons (pd_var 1) pad_nil)))))))) (pssd_cons (psd_ret pd_non)
    pssd_nil) pssd_nil)
    (pssd_cons (psd_if (ptd_bool (pwd_or (ptd_cmp (opd_notIn hr.units) (pd_var 4) (pd_lit 2 (.tuple [.str "upper", .str "lower"]) (by kernel_rfl))) (pwd_or (ptd_val (pd_isi (.inl rfl) C.t.isi C.t.bool bt_bool (pd_var 5))) (pwd_or1 (ptd_cmp (opd_notIn hr.units) (pd_var 5) (pd_tup (pad_cons pd_int (pad_cons (pd_neg pd_int) pad_nil)))))))) (pssd_cons (psd_ret pd_non)
    pssd_nil) pssd_nil)
    (pssd_cons (psd_set 6 sc_LBehind.nd (pd_callTy cd_intOf C.t.int bt_int (pad_cons (pd_cmp (opd_eq hr.units) (pd_var 4) pd_str) pad_nil)))
    (psso_toD (psso_new 7 sc_LBehind.nd (pn_listOf C.t.list bt_list (pad_cons (pd_ix (pd_var 1) (pd_var 3)) pad_nil))
    (psso_cons (pso_setL 7 (pd_var 6) (pd_bin opd_add (pd_ix (pd_var 7) (pd_var 6)) (pd_var 5)))
    (psso_fin (pssd_cons (psd_if (ptd_not (ptd_chain opd_le opd_le pd_int (pd_ix (pd_var 7) (pd_var 6)) (pd_ix (pd_tup (pad_cons (pd_ix (pd_var 0) pd_int) (pad_cons (pd_ix (pd_var 0) pd_int) pad_nil))) (pd_var 6)))) (pssd_cons (psd_ret pd_non)
    pssd_nil) pssd_nil)
    (pssd_cons (psd_ret (pd_bin opd_add (pd_bin opd_add (pd_slaTo (pd_var 1) (pd_var 3)) (pd_tup (pad_cons (pd_callTy cd_tupOf C.t.tuple bt_tuple (pad_cons (pd_var 7) pad_nil)) pad_nil))) (pd_slaFrom (pd_var 1) (pd_bin opd_add (pd_var 3) pd_int))))
    pssd_nil)))))))))))⟩
noncomputable def gLBehind : List PyData → Option PyData := bodyD nLBehind 3 bLBehind.1
noncomputable abbrev sLMoves : Stmt := top 46
structure CLMoves (P : Program) (w : World) (K : PySem.W.Frag) (mg : Str → Option Value) (base : Heap) : Prop where
  t : Bare mg
  c_LBehind : Callee P w K mg base "_law_behind" ["_law_manner_here", "_law_setting_here", "_law_move"] 1 3 gLBehind
noncomputable abbrev nLMoves : List Str := ["_law_manner_here", "_law_setting_here", "_law_found", "_law_rod", "_law_some"]
theorem sc_LMoves : FnScope nLMoves ["_law_manner_here", "_law_setting_here"] (defScope sLMoves) := ⟨rfl, rfl, rfl, by decide +kernel, rfl, by decide +kernel, by decide +kernel⟩
theorem nd_k20_2 : (["_law_move", "_law_manner_here", "_law_setting_here"] : List Str).Nodup := by decide +kernel
noncomputable def bLMoves1 : { B : Rho → Option Out // BodyS CLMoves "_law_moves" sLMoves nLMoves 1 (forBody (nthS (defBody sLMoves) 1)) B } :=
  ⟨_, fun P w K mg base f cdv A outer s H E C hr =>
    (pssd_cons (psd_set 4 sc_LMoves.nd (pd_lst (pad_cons (pd_tup (pad_cons (pd_var 3) (pad_cons pd_str (pad_cons pd_int pad_nil)))) (pad_cons (pd_tup (pad_cons (pd_var 3) (pad_cons pd_str (pad_cons (pd_neg pd_int) pad_nil)))) (pad_cons (pd_tup (pad_cons (pd_var 3) (pad_cons pd_str (pad_cons pd_int pad_nil)))) (pad_cons (pd_tup (pad_cons (pd_var 3) (pad_cons pd_str (pad_cons (pd_neg pd_int) pad_nil)))) pad_nil))))))
    (pssd_cons (psd_set 2 sc_LMoves.nd (pd_bin opd_add (pd_var 2) (pd_comp ["_law_move", "_law_manner_here", "_law_setting_here"] [none, some 0, some 1] rfl (pid_seq (pd_var 4)) (comp_ok (defScope sLMoves) nLMoves (by decide +kernel))
      fun cl C' s0 H0 fp pn => ⟨(pgd_name 0 nd_k20_2), (ptsd_one (ptd_cmp opd_notN (pd_callC C.c_LBehind hr (by decide) (pad_cons (pd_var 1) (pad_cons (pd_var 2) (pad_cons (pd_var 0) pad_nil))) (len_cons (len_cons (len_cons len_nil)))) pd_non)), (pd_var 0)⟩)))
    pssd_nil))⟩
noncomputable def bLMoves : { B : Rho → Option Out // Body CLMoves "_law_moves" sLMoves nLMoves 1 B } :=
  ⟨_, fun P w K mg base f cdv A outer s H E C hr =>
    (pssd_cons (psd_set 2 sc_LMoves.nd (pd_lst pad_nil))
    (pssd_cons (psd_for PassesOwn.never rfl (pid_range1 rfl C.t.range (pad_cons (pd_callB cd_len C.t.len bt_len (pad_cons (pd_var 1) pad_nil)) pad_nil)) (pgd_name 3 sc_LMoves.nd) (bLMoves1.2 P w K mg base f cdv A outer s H E C hr))
    (pssd_cons (psd_ret (pd_var 2))
    pssd_nil)))⟩
noncomputable def gLMoves : List PyData → Option PyData := bodyD nLMoves 2 bLMoves.1
noncomputable abbrev sLDrawnMoves : Stmt := top 47
structure CLDrawnMoves (P : Program) (w : World) (K : PySem.W.Frag) (mg : Str → Option Value) (base : Heap) : Prop where
  t : Bare mg
  c_drawn : Callee P w K mg base "_law_drawn" ["_law_script", "_law_k", "_law_many"] 2 3 gDrawn
  c_LMoves : Callee P w K mg base "_law_moves" ["_law_manner_here", "_law_setting_here"] 2 2 gLMoves
  c_LBehind : Callee P w K mg base "_law_behind" ["_law_manner_here", "_law_setting_here", "_law_move"] 1 3 gLBehind
noncomputable abbrev nLDrawnMoves : List Str := ["_law_script", "_law_at", "_law_manner_here", "_law_setting_here", "_law_moves_here", "_law_k", "_law_some"]
theorem sc_LDrawnMoves : FnScope nLDrawnMoves ["_law_script", "_law_at", "_law_manner_here", "_law_setting_here"] (defScope sLDrawnMoves) := ⟨rfl, rfl, rfl, by decide +kernel, rfl, by decide +kernel, by decide +kernel⟩
noncomputable def bLDrawnMoves1 : { B : Rho → Option Out // BodyO 4 CLDrawnMoves "_law_drawn_moves" sLDrawnMoves nLDrawnMoves 2 (forBody (nthS (defBody sLDrawnMoves) 1)) B } :=
  ⟨_, fun P w K mg base f cdv A outer s H E C hr =>
    (psso_cons (pso_set 6 sc_LDrawnMoves.nd (pd_callC C.c_LMoves hr (by decide) (pad_cons (pd_var 2) (pad_cons (pd_var 3) pad_nil)) (len_cons (len_cons len_nil))))
    (psso_cons (pso_mut (pe_append 4 (pd_ix (pd_var 6) (pd_callC C.c_drawn hr (by decide) (pad_cons (pd_var 0) (pad_cons (pd_bin opd_add (pd_bin opd_add (pd_var 1) pd_int) (pd_var 5)) (pad_cons (pd_callB cd_len C.t.len bt_len (pad_cons (pd_var 6) pad_nil)) pad_nil))) (len_cons (len_cons (len_cons len_nil)))))))
    (psso_cons (pso_set 3 sc_LDrawnMoves.nd (pd_callC C.c_LBehind hr (by decide) (pad_cons (pd_var 2) (pad_cons (pd_var 3) (pad_cons (pd_ix (pd_var 4) (pd_neg pd_int)) pad_nil))) (len_cons (len_cons (len_cons len_nil)))))
    psso_nil)))⟩
noncomputable def bLDrawnMoves : { B : Rho → Option Out // Body CLDrawnMoves "_law_drawn_moves" sLDrawnMoves nLDrawnMoves 2 B } :=
  ⟨_, fun P w K mg base f cdv A outer s H E C hr =>
    (psso_toD (psso_new 4 sc_LDrawnMoves.nd (pn_lst pad_nil)
    (psso_cons (pso_for PassesOwn.never rfl (pid_range1 rfl C.t.range (pad_cons (pd_callC C.c_drawn hr (by decide) (pad_cons (pd_var 0) (pad_cons (pd_var 1) (pad_cons pd_int pad_nil))) (len_cons (len_cons (len_cons len_nil)))) pad_nil)) (pgo_name 5 sc_LDrawnMoves.nd) (bLDrawnMoves1.2 P w K mg base f cdv A outer s H E C hr))
    (psso_fin (pssd_cons (psd_ret (pd_tup (pad_cons (pd_var 4) (pad_cons (pd_var 3) pad_nil))))
    pssd_nil)))))⟩
noncomputable def gLDrawnMoves : List PyData → Option PyData := bodyD nLDrawnMoves 4 bLDrawnMoves.1
noncomputable abbrev sLaw : Stmt := top 48
structure CLaw (P : Program) (w : World) (K : PySem.W.Frag) (mg : Str → Option Value) (base : Heap) : Prop where
  t : Bare mg
  c_manner : Callee P w K mg base "_law_manner" ["_law_script", "_law_at"] 3 2 gManner
  c_setting : Callee P w K mg base "_law_setting" ["_law_script", "_law_at", "_law_manner_here", "_law_most"] 3 4 gSet
  c_LMoves : Callee P w K mg base "_law_moves" ["_law_manner_here", "_law_setting_here"] 2 2 gLMoves
  c_LTold : Callee P w K mg base "_law_told" ["_law_way", "_law_manner_here", "_law_setting_here", "_law_thing"] 9 4 gLTold
  c_drawn : Callee P w K mg base "_law_drawn" ["_law_script", "_law_k", "_law_many"] 2 3 gDrawn
  c_LBehind : Callee P w K mg base "_law_behind" ["_law_manner_here", "_law_setting_here", "_law_move"] 1 3 gLBehind
  c_LDrawnMoves : Callee P w K mg base "_law_drawn_moves" ["_law_script", "_law_at", "_law_manner_here", "_law_setting_here"] 3 4 gLDrawnMoves
noncomputable abbrev nLaw : List Str := ["_law_script", "_law_manner_here", "_law_setting_here", "_law_due", "_law_rod", "_law_deck", "_law_by", "_law_things", "_law_thing", "_law_there", "_law_moves_here", "_law_here", "_law_at", "_law_bad", "_law_told_here"]
theorem sc_Law : FnScope nLaw ["_law_script"] (defScope sLaw) := ⟨rfl, rfl, rfl, by decide +kernel, rfl, by decide +kernel, by decide +kernel⟩
theorem nd_k20_3 : (["_law_way", "_law_manner_here", "_law_bad"] : List Str).Nodup := by decide +kernel
theorem nd_k20_4 : (["_law_way", "_law_bad", "_law_manner_here"] : List Str).Nodup := by decide +kernel
noncomputable def bLaw1 : { B : Rho → Option Out // BodyS CLaw "law" sLaw nLaw 9 (forBody (nthS (defBody sLaw) 10)) B } :=
  ⟨_, fun P w K mg base f cdv A outer s H E C hr =>
    (pssd_cons (psd_set 9 sc_Law.nd (pd_callC C.c_LBehind hr (by decide) (pad_cons (pd_var 1) (pad_cons (pd_var 2) (pad_cons (pd_var 8) pad_nil))) (len_cons (len_cons (len_cons len_nil)))))
    (pssd_cons (psd_if (ptd_cmp (opd_ne hr.units) (pd_callC C.c_LTold hr (by decide) (pad_cons pd_int (pad_cons (pd_var 1) (pad_cons (pd_var 2) (pad_cons (pd_var 8) pad_nil)))) (len_cons (len_cons (len_cons (len_cons len_nil))))) (pd_cmp opd_notN (pd_var 9) pd_non)) (pssd_cons (psd_ret pd_bl)
    pssd_nil) pssd_nil)
    (pssd_cons (psd_if (ptd_cmp (opd_ne hr.units) (pd_callC C.c_LTold hr (by decide) (pad_cons pd_int (pad_cons (pd_var 1) (pad_cons (pd_var 2) (pad_cons (pd_var 8) pad_nil)))) (len_cons (len_cons (len_cons (len_cons len_nil))))) (pd_if (ptd_cmp opd_isN (pd_var 9) pd_non) (pd_lit 2 (.tuple [.str "refused", .int 3]) (by kernel_rfl)) (pd_var 9))) (pssd_cons (psd_ret pd_bl)
    pssd_nil) pssd_nil)
    pssd_nil)))⟩
noncomputable def bLaw : { B : Rho → Option Out // Body CLaw "law" sLaw nLaw 9 B } :=
  ⟨_, fun P w K mg base f cdv A outer s H E C hr =>
    (pssd_cons (psd_set 1 sc_Law.nd (pd_callC C.c_manner hr (by decide) (pad_cons (pd_var 0) (pad_cons pd_int pad_nil)) (len_cons (len_cons len_nil))))
    (pssd_cons (psd_set 2 sc_Law.nd (pd_callC C.c_setting hr (by decide) (pad_cons (pd_var 0) (pad_cons pd_int (pad_cons (pd_var 1) (pad_cons pd_int pad_nil)))) (len_cons (len_cons (len_cons (len_cons len_nil))))))
    (pssd_cons (psd_set 3 sc_Law.nd (pd_callC C.c_LMoves hr (by decide) (pad_cons (pd_var 1) (pad_cons (pd_var 2) pad_nil)) (len_cons (len_cons len_nil))))
    (pssd_cons (psd_if (ptd_cmp (opd_ne hr.units) (pd_callC C.c_LTold hr (by decide) (pad_cons pd_int (pad_cons (pd_var 1) (pad_cons (pd_var 2) (pad_cons pd_non pad_nil)))) (len_cons (len_cons (len_cons (len_cons len_nil))))) (pd_var 3)) (pssd_cons (psd_ret pd_bl)
    pssd_nil) pssd_nil)
    (pssd_cons (psd_set 4 sc_Law.nd (pd_bin opd_sub (pd_callC C.c_drawn hr (by decide) (pad_cons (pd_var 0) (pad_cons pd_int (pad_cons pd_int pad_nil))) (len_cons (len_cons (len_cons len_nil)))) pd_int))
    (pssd_cons (psd_set 5 sc_Law.nd (pd_ix (pd_lit 2 (.list [.str "upper", .str "lower", .str "side", .none, .int 0]) (by kernel_rfl)) (pd_callC C.c_drawn hr (by decide) (pad_cons (pd_var 0) (pad_cons pd_int (pad_cons pd_int pad_nil))) (len_cons (len_cons (len_cons len_nil))))))
    (pssd_cons (psd_set 6 sc_Law.nd (pd_ix (pd_lst (pad_cons pd_int (pad_cons (pd_neg pd_int) (pad_cons pd_int (pad_cons pd_int (pad_cons (pd_neg pd_int) (pad_cons pd_bl (pad_cons pd_non (pad_cons pd_str pad_nil))))))))) (pd_callC C.c_drawn hr (by decide) (pad_cons (pd_var 0) (pad_cons pd_int (pad_cons pd_int pad_nil))) (len_cons (len_cons (len_cons len_nil))))))
    (pssd_cons (psd_set 7 sc_Law.nd (pd_bin opd_add (pd_var 3) (pd_lst (pad_cons (pd_tup (pad_cons (pd_var 4) (pad_cons (pd_var 5) (pad_cons (pd_var 6) pad_nil)))) (pad_cons (pd_tup (pad_cons (pd_var 4) (pad_cons pd_str (pad_cons (pd_var 6) pad_nil)))) (pad_cons (pd_tup (pad_cons pd_int (pad_cons (pd_var 5) (pad_cons pd_int pad_nil)))) (pad_cons (pd_lit 2 (.tuple [.bool true, .str "lower", .int 1]) (by kernel_rfl)) pad_nil)))))))
    (pssd_cons (psd_set 7 sc_Law.nd (pd_bin opd_add (pd_var 7) (pd_lit 3 (.list [.tuple [.int 0, .str "lower"], .list [.int 0, .str "lower", .int 1], .none, .tuple [.int 0, .str "lower", .int 1, .int 1]]) (by kernel_rfl))))
    (pssd_cons (psd_set 7 sc_Law.nd (pd_bin opd_add (pd_var 7) (pd_lst (pad_cons (pd_tup (pad_cons (pd_neg pd_int) (pad_cons pd_str (pad_cons pd_int pad_nil)))) (pad_cons (pd_tup (pad_cons (pd_neg pd_int) (pad_cons pd_str (pad_cons (pd_neg pd_int) pad_nil)))) (pad_cons (pd_lit 2 (.tuple [.int 0, .str "lower", .int 0]) (by kernel_rfl)) (pad_cons (pd_lit 2 (.tuple [.int 0, .str "upper", .int 0]) (by kernel_rfl)) (pad_cons (pd_tup (pad_cons pd_int (pad_cons pd_str (pad_cons (pd_neg pd_int) pad_nil)))) pad_nil))))))))
    (pssd_cons (psd_for PassesOwn.never rfl (pid_seq (pd_bin opd_add (pd_var 7) (pd_lst (pad_cons (pd_tup (pad_cons (pd_callB cd_len C.t.len bt_len (pad_cons (pd_var 2) pad_nil)) (pad_cons pd_str (pad_cons pd_int pad_nil)))) (pad_cons (pd_tup (pad_cons pd_int (pad_cons pd_str (pad_cons (pd_neg pd_int) pad_nil)))) (pad_cons (pd_tup (pad_cons pd_int (pad_cons pd_str (pad_cons (pd_neg pd_int) pad_nil)))) pad_nil)))))) (pgd_name 8 sc_Law.nd) (bLaw1.2 P w K mg base f cdv A outer s H E C hr))
    (pssd_cons (psd_asg (pd_callC C.c_LDrawnMoves hr (by decide) (pad_cons (pd_var 0) (pad_cons pd_int (pad_cons (pd_var 1) (pad_cons (pd_var 2) pad_nil)))) (len_cons (len_cons (len_cons (len_cons len_nil))))) (pgd_tup (n := 2) rfl (pgsd_cons (pgd_name 10 sc_Law.nd) (pgsd_cons (pgd_name 11 sc_Law.nd) pgsd_nil))))
    (pssd_cons (psd_if (ptd_bool (pwd_or (ptd_cmp (opd_ne hr.units) (pd_callC C.c_LTold hr (by decide) (pad_cons pd_int (pad_cons (pd_var 1) (pad_cons (pd_var 2) (pad_cons (pd_var 10) pad_nil)))) (len_cons (len_cons (len_cons (len_cons len_nil))))) (pd_var 11)) (pwd_or1 (ptd_cmp (opd_ne hr.units) (pd_callC C.c_LTold hr (by decide) (pad_cons pd_int (pad_cons (pd_var 1) (pad_cons (pd_var 2) (pad_cons (pd_lst pad_nil) pad_nil)))) (len_cons (len_cons (len_cons (len_cons len_nil))))) (pd_var 2))))) (pssd_cons (psd_ret pd_bl)
    pssd_nil) pssd_nil)
    (pssd_cons (psd_set 12 sc_Law.nd (pd_callC C.c_drawn hr (by decide) (pad_cons (pd_var 0) (pad_cons pd_int (pad_cons (pd_bin opd_add (pd_callB cd_len C.t.len bt_len (pad_cons (pd_var 10) pad_nil)) pd_int) pad_nil))) (len_cons (len_cons (len_cons len_nil)))))
    (pssd_cons (psd_if (ptd_cmp (opd_ne hr.units) (pd_callC C.c_LTold hr (by decide) (pad_cons pd_int (pad_cons (pd_var 1) (pad_cons (pd_var 2) (pad_cons (pd_bin opd_add (pd_bin opd_add (pd_sllTo (pd_var 10) (pd_var 12)) (pd_lit 3 (.list [.tuple [.int 9, .str "lower", .int 1]]) (by kernel_rfl))) (pd_sllFrom (pd_var 10) (pd_var 12))) pad_nil)))) (len_cons (len_cons (len_cons (len_cons len_nil))))) (pd_lit 2 (.tuple [.str "refused", .int 3]) (by kernel_rfl))) (pssd_cons (psd_ret pd_bl)
    pssd_nil) pssd_nil)
    (pssd_cons (psd_set 13 sc_Law.nd (pd_ix (pd_lst (pad_cons pd_non (pad_cons (pd_tup pad_nil) (pad_cons (pd_callTy cd_listOf C.t.list bt_list (pad_cons (pd_var 2) pad_nil)) (pad_cons (pd_bin opd_add (pd_var 2) (pd_lit 3 (.tuple [.tuple [.int 0, .int 13]]) (by kernel_rfl))) pad_nil))))) (pd_callC C.c_drawn hr (by decide) (pad_cons (pd_var 0) (pad_cons pd_int (pad_cons pd_int pad_nil))) (len_cons (len_cons (len_cons len_nil))))))
    (pssd_cons (psd_if (ptd_cmp (opd_ne hr.units) (pd_comp ["_law_way", "_law_manner_here", "_law_bad"] [none, some 1, some 13] rfl (pid_range1 rfl C.t.range (pad_cons pd_int pad_nil)) (comp_ok (defScope sLaw) nLaw (by decide +kernel))
      fun cl C' s0 H0 fp pn => ⟨(pgd_name 0 nd_k20_3), ptsd_nil, (pd_callC C.c_LTold hr (by decide) (pad_cons (pd_var 0) (pad_cons (pd_var 1) (pad_cons (pd_var 2) (pad_cons (pd_lst pad_nil) pad_nil)))) (len_cons (len_cons (len_cons (len_cons len_nil)))))⟩) (pd_bin opd_repL (pd_lit 3 (.list [.tuple [.str "refused", .int 1]]) (by kernel_rfl)) pd_int)) (pssd_cons (psd_ret pd_bl)
    pssd_nil) pssd_nil)
    (pssd_cons (psd_setC 14 ["_law_way", "_law_bad", "_law_manner_here"] [none, some 13, some 1] rfl sc_Law.nd (pid_range1 rfl C.t.range (pad_cons pd_int pad_nil)) (comp_ok (defScope sLaw) nLaw (by decide +kernel))
      fun cl C' s0 H0 fp pn => ⟨(pgd_name 0 nd_k20_4), ptsd_nil, (pd_callC C.c_LTold hr (by decide) (pad_cons (pd_var 0) (pad_cons (pd_slaTo (pd_var 2) pd_int) (pad_cons (pd_var 1) (pad_cons (pd_lst pad_nil) pad_nil)))) (len_cons (len_cons (len_cons (len_cons len_nil)))))⟩)
    (pssd_cons (psd_ret (pd_cmp (opd_eq hr.units) (pd_var 14) (pd_bin opd_repL (pd_lit 3 (.list [.tuple [.str "refused", .int 0]]) (by kernel_rfl)) pd_int)))
    pssd_nil)))))))))))))))))))⟩
noncomputable def gLaw : List PyData → Option PyData := bodyD nLaw 1 bLaw.1
end Rods

end
section
set_option Elab.async false
set_option linter.all false
set_option maxRecDepth 100000
set_option maxHeartbeats 4000000
namespace Rods
open PySem L2 BX
open PyProof.Rows hiding St
theorem gIsWhole_int (i a b : Int) : gIsWhole [.int i, .int a, .int b] = some (.bool (decide (a ≤ i) && decide (i ≤ b))) := by
  by_cases h : a ≤ i <;> simp [gIsWhole, bodyD, bIsWhole, startR, seqS, ifS, orB, tst, lkp, isiB, tyn, asB, notB, chn, dCmp, retD, nxtS, h]
theorem gRodWorth_eq (u e l b x y : Int) (h : -18446744073709551616 < x ∧ x < 18446744073709551616) : gRodWorth [.tuple [.int u, .int e, .int l, .int b], .tuple [.int x, .int y]] = some (.int (x * e + y)) := by
  simp [gRodWorth, bodyD, bRodWorth, startR, seqS, op2, lkp, dIx, atI, ixN, retD, nxtS, cst, dMul, dAdd, h]
theorem ixN_of {n : Nat} {i : Int} (h0 : 0 ≤ i) (h : i.toNat < n) : ixN n i = some i.toNat := by
  unfold ixN
  rw [if_pos h0, if_pos (by omega)]
noncomputable def okN (u e l b : Int) : Bool := decide (0 ≤ u) && decide (u ≤ 3) && decide (1 ≤ e) && decide (e ≤ 5) && decide (e - 1 ≤ l) && decide (1 ≤ l) && decide (l ≤ 11) && decide (2 ≤ b) && decide (b ≤ 16) && decide (b ≤ u * e + l + 1)
noncomputable def rodsU (u l : Int) : List PyData := rodsN (u + 1).toNat (l + 1).toNat
noncomputable def worthOf (e : Int) : PyData → Int
  | .tuple [.int x, .int y] => x * e + y
  | _ => -1
noncomputable def pr (p : Int × Int) : PyData := .tuple [.int p.1, .int p.2]
noncomputable def sett (ps : List (Int × Int)) : PyData := .tuple (ps.map pr)
noncomputable def okP (u l : Int) (p : Int × Int) : Bool := decide (0 ≤ p.1) && decide (p.1 ≤ u) && decide (0 ≤ p.2) && decide (p.2 ≤ l)
noncomputable def okS (u l : Int) (ps : List (Int × Int)) : Bool := decide (1 ≤ ps.length) && decide (ps.length ≤ 4) && ps.all (okP u l)
noncomputable def okM (u e l b : Int) : Bool := decide (0 ≤ u) && decide (u ≤ 3) && decide (1 ≤ e) && decide (e ≤ 5) && decide (e - 1 ≤ l) && decide (1 ≤ l) && decide (l ≤ 10) && decide (2 ≤ b) && decide (b ≤ 16) && decide (b ≤ u * e + l + 1)
theorem mem_rodsN {n m : Nat} {d : PyData} (h : d ∈ rodsN n m) : ∃ i j : Nat, i < n ∧ j < m ∧ d = .tuple [.int i, .int j] := by
  obtain ⟨i, hi, hd⟩ := List.mem_flatMap.mp h
  obtain ⟨j, hj, rfl⟩ := List.mem_map.mp hd
  exact ⟨i, j, List.mem_range.mp hi, List.mem_range.mp hj, rfl⟩
theorem okD_int (i : Int) : okD (.int i) = true := by simp [okD, PyData.canLay0, PyData.depth]
theorem gAllRods_eq {u e l b : Int} (hu : 0 ≤ u) (hu' : u < 100) (hl : 0 ≤ l) (hl' : l < 100) : gAllRods [four u e l b] = some (.list (rodsU u l)) := by
  simp [gAllRods, four, rodsU, hu, hl, show u < 1000 by omega, show l < 1000 by omega]
theorem few_rods {u l : Int} (hu' : u < 100) (hl' : l < 100) : few (rodsU u l) = true := by
  simp only [few, rodsU, len_rods, decide_eq_true_eq]
  have : (u + 1).toNat * (l + 1).toNat ≤ 100 * 100 := Nat.mul_le_mul (by omega) (by omega)
  omega
theorem worth_rod {u e l b : Int} (hu' : u < 100) {d : PyData} (h : d ∈ rodsU u l) : gRodWorth [four u e l b, d] = some (.int (worthOf e d)) := by
  obtain ⟨i, j, hi, hj, rfl⟩ := mem_rodsN h
  exact gRodWorth_eq u e l b i j (by omega)
theorem okD_ints (ns : List Int) : okD (.list (ns.map PyData.int)) = true := by
  have h1 : ∀ ns : List Int, PyData.canLayAll0 (ns.map PyData.int) = true := fun ns => by
    induction ns with
    | nil => rfl
    | cons n ns ih => simp [PyData.canLayAll0, PyData.canLay0, ih]
  have h2 : ∀ ns : List Int, PyData.depthAll (ns.map PyData.int) = 0 := fun ns => by
    induction ns with
    | nil => rfl
    | cons n ns ih => simp [PyData.depthAll, PyData.depth, ih]
  simp [okD, PyData.canLay0, h1, PyData.depth, h2]
theorem any_ints (ns : List Int) (d : Int) : (ns.map PyData.int).any (fun z => PyData.eqv z (.int d)) = ns.any (fun z => z == d) := by
  induction ns with
  | nil => rfl
  | cons n ns ih => simp only [List.map_cons, List.any_cons, ih]; rfl
theorem bls_map {α : Type} (f : α → Bool) : ∀ xs : List α, bls (xs.map fun d => PyData.bool (f d)) = some (xs.map f)
  | [] => rfl
  | x :: xs => by simp [bls, asB, bls_map f xs]
theorem ix0 (u e l b : Int) : dIx (four u e l b) (.int 0) = some (.int u) := rfl
theorem ix2 (u e l b : Int) : dIx (four u e l b) (.int 2) = some (.int l) := rfl
theorem ix3 (u e l b : Int) : dIx (four u e l b) (.int 3) = some (.int b) := rfl
theorem rng1_eq {j : Int} (h : 0 ≤ j) (h' : j < 1000000) : rng1 [.int j] = some (rngL 0 j.toNat) := by
  unfold rng1
  exact if_pos (by omega)
theorem eqv_int (a b : Int) : PyData.eqv (.int a) (.int b) = (a == b) := by unfold PyData.eqv; rfl
theorem gHasAll_eq {u e l b : Int} (hu : 0 ≤ u) (hu' : u < 100) (hl : 0 ≤ l) (hl' : l < 100) (hb : 0 ≤ b) (hb' : b < 100) : gHasAll [four u e l b] = some (.bool ((List.range b.toNat).all fun d => ((rodsU u l).map (worthOf e)).any fun z => z == (d : Int))) := by
  have h1 := gAllRods_eq (e := e) (b := b) hu hu' hl hl'
  have h2 := few_rods hu' hl'
  have h4 : few (rngL 0 b.toNat) = true := by simp [few, rngL]; omega
  simp only [gHasAll, bodyD, bHasAll, startR, seqS, retD, compD, itL, calD, consA, nilA, lkp, itemsL, List.length_cons, List.length_nil, if_true, List.map_cons, List.map_nil, List.cons_append, List.nil_append, List.getElem?_cons_zero, Option.join_some, Option.bind_some, Option.map_some, h1, h2, capR, asgS]
  rw [compL_map (fun d => .int (worthOf e d))]
  · simp only [asgN, nxtS, op2, cst, lkp, Option.bind_some, Option.map_some, List.set_cons_succ, List.set_cons_zero, List.replicate, List.length_cons, List.length_nil, List.getElem?_cons_zero, List.getElem?_cons_succ, Option.join_some, ix3, rng1_eq hb (show b < 1000000 by omega), h4, if_true]
    rw [compL_map (fun d => .bool (((rodsU u l).map (worthOf e)).any fun z => z == (inOf d).getD 0))]
    · have : (rngL 0 b.toNat).map (fun d => PyData.bool (((rodsU u l).map (worthOf e)).any fun z => z == (inOf d).getD 0)) = (List.range b.toNat).map fun (d : Nat) => PyData.bool (((rodsU u l).map (worthOf e)).any fun z => z == (d : Int)) := by
        simp [rngL, inOf, Function.comp_def]
      simp only [Option.map_some, Option.bind_some, this, dAll, bls_map (fun (d : Nat) => ((rodsU u l).map (worthOf e)).any fun z => z == (d : Int)), List.all_map, Function.comp_def, id]
    · intro d hd
      obtain ⟨k, _, rfl⟩ := List.mem_map.mp hd
      have h5 : (rodsU u l).map (fun d => PyData.int (worthOf e d)) = ((rodsU u l).map (worthOf e)).map PyData.int := by simp
      have h6 := okD_ints ((rodsU u l).map (worthOf e))
      simp only [op2, lkp, List.set_cons_zero, List.getElem?_cons_zero, List.getElem?_cons_succ, Option.join_some, Option.bind_some, dIn, okD_int, h5, h6, any_ints]
      simp [inOf]
  · intro d hd
    simp [calD, consA, nilA, lkp, worth_rod (b := b) (e := e) hu' hd]
theorem gIsManner_eq {u e l b : Int} (hu : 0 ≤ u) (hu' : u ≤ 3) (he : 1 ≤ e) (he' : e ≤ 16) (hl : 0 ≤ l) (hl' : l ≤ 12) (hb : 2 ≤ b) (hb' : b ≤ 16) : gIsManner [four u e l b] = gHasAll [four u e l b] := by
  have g := gHasAll_eq (e := e) hu (by omega) hl (by omega) (show 0 ≤ b by omega) (by omega)
  have w1 : gIsWhole [.int u, .int 0, .int 3] = some (.bool true) := by rw [gIsWhole_int]; simp [hu, hu']
  have w2 : gIsWhole [.int e, .int 1, .int 16] = some (.bool true) := by rw [gIsWhole_int]; simp [he, he']
  have w3 : gIsWhole [.int l, .int 0, .int 12] = some (.bool true) := by rw [gIsWhole_int]; simp [hl, hl']
  have w4 : gIsWhole [.int b, .int 2, .int 16] = some (.bool true) := by rw [gIsWhole_int]; simp [hb, hb']
  have z : zip3D [four u e l b, .tuple [.int 0, .int 1, .int 0, .int 2], .tuple [.int 3, .int 16, .int 12, .int 16]] = some [.tuple [.int u, .int 0, .int 3], .tuple [.int e, .int 1, .int 16], .tuple [.int l, .int 0, .int 12], .tuple [.int b, .int 2, .int 16]] := rfl
  rw [g]
  rw [show four u e l b = .tuple [.int u, .int e, .int l, .int b] from rfl] at g z ⊢
  simp [gIsManner, bodyD, bIsManner, startR, seqS, ifS, orB, notB, tst, isiB, tyn, asB, lkp, op2, calD, consA, nilA, dLen, cst, dNe, okD_int, eqv_int, nxtS, forS, z, loopD, asgT, asgCons, asgNil, asgN, w1, w2, w3, w4, retD, g]
theorem gCheck_eq {m : PyData} (h : gIsManner [m] = some (.bool true)) : gCheck [m] = some .none := by
  simp [gCheck, bodyD, bCheck, startR, seqS, ifS, notB, tst, asB, calD, consA, nilA, lkp, h, nxtS]
theorem few_nil : few [] = true := by simp [few]
theorem add_int (i j : Int) : dAdd (.int i) (.int j) = some (.int (i + j)) := rfl
theorem mul_small {i j : Int} (h : -1000000000000 < i ∧ i < 1000000000000) : dMul (.int i) (.int j) = some (.int (i * j)) := by
  unfold dMul; exact if_pos (.inl ⟨by omega, by omega⟩)
theorem mod_pos {i j : Int} (h : 0 < j) : dMod (.int i) (.int j) = some (.int (i % j)) := by unfold dMod; exact if_pos h
theorem fdiv_pos {i j : Int} (h : 0 < j) (h' : j < 1000000000) : dFdiv (.int i) (.int j) = some (.int (i / j)) := by unfold dFdiv; exact if_pos ⟨h, by omega⟩
theorem gCell_ex (ns : List Int) (hn : ns.length < 1000000) (k : Int) (hk : 0 ≤ k) : ∃ c, gCell [scr ns, .int k] = some (.int c) := by
  cases ns with
  | nil =>
    refine ⟨7 * k, ?_⟩
    simp [gCell, bodyD, bCell, startR, seqS, ifS, tst, op2, lkp, lstD, nilA, few, dEq, scr, isScr, asB, retD, cst, mul_small, nxtS]
  | cons n ns =>
    have hl : 0 < (((n :: ns).map fun n => (PyData.int n, PyData.none)).length : Int) := by simp
    have hl' : (((n :: ns).map fun n => (PyData.int n, PyData.none)).length : Int) < 1000000 := by simp at hn ⊢; omega
    have hsc := isScr_map (n :: ns)
    have e1 : dEq (scr (n :: ns)) (.list []) = some (.bool false) := by
      show (if isScr ((n :: ns).map fun n => (PyData.int n, PyData.none)) = true then some (PyData.bool ((n :: ns).map fun n => (PyData.int n, PyData.none)).isEmpty) else none) = _
      rw [if_pos hsc]; rfl
    have e2 : dLen [scr (n :: ns)] = some (.int (((n :: ns).map fun n => (PyData.int n, PyData.none)).length)) := by
      show (if isScr ((n :: ns).map fun n => (PyData.int n, PyData.none)) = true then some (PyData.int ((n :: ns).map fun n => (PyData.int n, PyData.none)).length) else none) = _
      rw [if_pos hsc]
    generalize hL : (((n :: ns).map fun n => (PyData.int n, PyData.none)).length : Int) = L at *
    have h0 : 0 ≤ k % L := Int.emod_nonneg _ (by omega)
    have h1 : k % L < L := Int.emod_lt_of_pos _ hl
    have e3 : ∃ c, dIx (scr (n :: ns)) (.int (k % L)) = some (.int c) := by
      have hlen : ((n :: ns).map fun n => (PyData.int n, PyData.none)).length < 1000000 := by omega
      have hlt : (k % L).toNat < ((n :: ns).map fun n => (PyData.int n, PyData.none)).length := by omega
      have hx : ixN ((n :: ns).map fun n => (PyData.int n, PyData.none)).length (k % L) = some (k % L).toNat := ixN_of h0 hlt
      refine ⟨((n :: ns)[(k % L).toNat]'(by simpa using hlt)), ?_⟩
      show (if ((n :: ns).map fun n => (PyData.int n, PyData.none)).length < 1000000 ∧ isScr ((n :: ns).map fun n => (PyData.int n, PyData.none)) = true then (atI ((n :: ns).map fun n => (PyData.int n, PyData.none)) (k % L)).map (·.1) else none) = _
      rw [if_pos ⟨hlen, hsc⟩]
      unfold atI
      rw [hx, Option.bind_some, List.getElem?_eq_getElem hlt, Option.map_some, List.getElem_map]
    obtain ⟨c, e3⟩ := e3
    refine ⟨c + 6553 * (k / L), ?_⟩
    simp [gCell, bodyD, bCell, startR, seqS, ifS, tst, op2, lkp, lstD, nilA, few, asB, retD, cst, nxtS, calD, consA, e1, e2, e3, mod_pos hl, fdiv_pos hl (show L < 1000000000 by omega), mul_small, add_int]
theorem gDrawn_ex (ns : List Int) (hn : ns.length < 1000000) (k m : Int) (hk : 0 ≤ k) (hm : 0 < m) : ∃ r, gDrawn [scr ns, .int k, .int m] = some (.int r) ∧ 0 ≤ r ∧ r < m := by
  obtain ⟨c, hc⟩ := gCell_ex ns hn k hk
  generalize h1 : (c % 2147483563 * 69069 + 104723 * (k + 1)) % 2147483563 = a
  generalize h2 : (a * a + a / 3) % 2147483399 = d
  have ha : 0 ≤ a ∧ a < 2147483563 := by rw [← h1]; exact ⟨Int.emod_nonneg _ (by omega), Int.emod_lt_of_pos _ (by omega)⟩
  have hd : 0 ≤ d ∧ d < 2147483399 := by rw [← h2]; exact ⟨Int.emod_nonneg _ (by omega), Int.emod_lt_of_pos _ (by omega)⟩
  have hc' : 0 ≤ c % 2147483563 ∧ c % 2147483563 < 2147483563 := ⟨Int.emod_nonneg _ (by omega), Int.emod_lt_of_pos _ (by omega)⟩
  refine ⟨(d * d + d / 7) % 2147483647 / 11 % m, ?_, Int.emod_nonneg _ (by omega), Int.emod_lt_of_pos _ hm⟩
  have m1 : dMul (.int (c % 2147483563)) (.int 69069) = some (.int (c % 2147483563 * 69069)) := mul_small (by omega)
  have m2 : dMul (.int 104723) (.int (k + 1)) = some (.int (104723 * (k + 1))) := mul_small (by omega)
  have m3 : dMul (.int a) (.int a) = some (.int (a * a)) := mul_small (by omega)
  have m4 : dMul (.int d) (.int d) = some (.int (d * d)) := mul_small (by omega)
  simp [gDrawn, bodyD, bDrawn, startR, seqS, asgS, asgN, op2, lkp, nilA, retD, cst, nxtS, calD, consA, hc, m1, m2, m3, m4, mod_pos, fdiv_pos, add_int, h1, h2, hm]
theorem known_ok (w : Int) (h0 : 0 ≤ w) (h : w < 12) : ∃ u e l b, dIx (.list (known1 ++ known2)) (.int w) = some (four u e l b) ∧ okM u e l b = true := by
  obtain ⟨n, rfl⟩ := Int.eq_ofNat_of_zero_le h0
  have hn : n < 12 := by omega
  have : ∀ n < 12, ∃ u e l b, dIx (.list (known1 ++ known2)) (.int (n : Nat)) = some (four u e l b) ∧ okM u e l b = true := by
    intro n hn
    match n, hn with
    | 0, _ => exact ⟨_, _, _, _, rfl, by decide⟩
    | 1, _ => exact ⟨_, _, _, _, rfl, by decide⟩
    | 2, _ => exact ⟨_, _, _, _, rfl, by decide⟩
    | 3, _ => exact ⟨_, _, _, _, rfl, by decide⟩
    | 4, _ => exact ⟨_, _, _, _, rfl, by decide⟩
    | 5, _ => exact ⟨_, _, _, _, rfl, by decide⟩
    | 6, _ => exact ⟨_, _, _, _, rfl, by decide⟩
    | 7, _ => exact ⟨_, _, _, _, rfl, by decide⟩
    | 8, _ => exact ⟨_, _, _, _, rfl, by decide⟩
    | 9, _ => exact ⟨_, _, _, _, rfl, by decide⟩
    | 10, _ => exact ⟨_, _, _, _, rfl, by decide⟩
    | 11, _ => exact ⟨_, _, _, _, rfl, by decide⟩
    | k + 12, h => omega
  exact this n hn
theorem gManner_ex (ns : List Int) (hn : ns.length < 1000000) (k : Int) (hk : 0 ≤ k) : ∃ u e l b, gManner [scr ns, .int k] = some (four u e l b) ∧ okM u e l b = true := by
  obtain ⟨w, hw, hw0, hw1⟩ := gDrawn_ex ns hn k 24 hk (by omega)
  have a1 : dAdd (.list known1) (.list known2) = some (.list (known1 ++ known2)) := rfl
  have a2 : dLen [.list (known1 ++ known2)] = some (.int 12) := rfl
  have a3 : dMul (.int 2) (.int 12) = some (.int 24) := rfl
  by_cases hlt : w < 12
  · obtain ⟨u, e, l, b, h1, h2⟩ := known_ok w hw0 hlt
    refine ⟨u, e, l, b, ?_, h2⟩
    simp [gManner, bodyD, bManner, startR, seqS, asgS, asgN, op2, lkp, nilA, retD, cst, nxtS, calD, consA, ifS, tst, asB, a1, a2, a3, hw, dCmp, hlt, h1]
  · obtain ⟨r1, e1, p1, q1⟩ := gDrawn_ex ns hn (k + 1) 5 (by omega) (by omega)
    obtain ⟨r2, e2, p2, q2⟩ := gDrawn_ex ns hn (k + 2) 4 (by omega) (by omega)
    obtain ⟨r3, e3, p3, q3⟩ := gDrawn_ex ns hn (k + 3) 4 (by omega) (by omega)
    generalize hlo : (if (1 : Int) > 1 + r1 - 1 then 1 else 1 + r1 - 1) + r3 = lo
    have hlo1 : 1 ≤ lo ∧ r1 ≤ lo ∧ lo ≤ 10 := by
      rw [← hlo]; split <;> omega
    have hue : 0 ≤ r2 * (1 + r1) ∧ r2 * (1 + r1) ≤ 3 * 5 := ⟨Int.mul_nonneg p2 (by omega), Int.mul_le_mul (by omega) (by omega) (by omega) (by omega)⟩
    generalize hmn : (if r2 * (1 + r1) + lo < 15 then r2 * (1 + r1) + lo else 15) = mn
    have hmn1 : 0 < mn ∧ mn ≤ 15 ∧ mn ≤ r2 * (1 + r1) + lo := by
      rw [← hmn]; split <;> omega
    obtain ⟨r4, e4, p4, q4⟩ := gDrawn_ex ns hn (k + 4) mn (by omega) (by omega)
    refine ⟨r2, 1 + r1, lo, 2 + r4, ?_, ?_⟩
    · have m1 : dMul (.int r2) (.int (1 + r1)) = some (.int (r2 * (1 + r1))) := mul_small (by omega)
      have x1 : dMax2 [.int (1 + r1 - 1), .int 1] = some (.int (if (1 : Int) > 1 + r1 - 1 then 1 else 1 + r1 - 1)) := rfl
      have x2 : dMin2 [.int 15, .int (r2 * (1 + r1) + lo)] = some (.int (if r2 * (1 + r1) + lo < 15 then r2 * (1 + r1) + lo else 15)) := rfl
      have x3 : dSub (.int (1 + r1)) (.int 1) = some (.int (1 + r1 - 1)) := rfl
      simp only [gManner, bodyD, bManner, startR, seqS, asgS, asgN, op2, lkp, nilA, retD, cst, nxtS, calD, consA, ifS, tst, asB, a1, a2, a3, hw, dCmp, hlt, Option.bind_some, Option.map_some, List.set_cons_succ, List.set_cons_zero, List.replicate, List.length_cons, List.length_nil, if_true, List.map_cons, List.map_nil, List.cons_append, List.nil_append, List.getElem?_cons_zero, List.getElem?_cons_succ, Option.join_some, add_int, e1, e2, e3, m1, x1, x2, x3, decide_false, hlo, hmn, e4]
      simp [e1, e2, e3, m1, x1, x2, x3, hlo, hmn, e4, add_int, lkp, tupD, consA, nilA, few, four]
      simp only [tupD, consA, nilA, lkp, op2, calD, cst, Option.bind_some, Option.map_some, List.getElem?_cons_zero, List.getElem?_cons_succ, Option.join_some, add_int, m1, x2, hmn, e4]
      simp
    · have := hue.1
      simp [okM]
      omega
noncomputable def allN : Bool := (List.range 4).all fun (i : Nat) => (List.range 5).all fun (j : Nat) => (List.range 11).all fun (k : Nat) => decide (k + 1 < j) || ((List.range (i * (j + 1) + (k + 1) + 1)).all fun (n : Nat) => (rodsU i (k + 1)).any fun r => worthOf (j + 1) r == (n : Int))
theorem split_N {u e l b : Int} (h : okN u e l b = true) : 0 ≤ u ∧ u ≤ 3 ∧ 1 ≤ e ∧ e ≤ 5 ∧ e - 1 ≤ l ∧ 1 ≤ l ∧ l ≤ 11 ∧ 2 ≤ b ∧ b ≤ 16 ∧ b ≤ u * e + l + 1 := by
  simp only [okN, Bool.and_eq_true, decide_eq_true_eq] at h
  omega
theorem okM_okN {u e l b : Int} (h : okM u e l b = true) : okN u e l b = true := by
  simp only [okM, okN, Bool.and_eq_true, decide_eq_true_eq] at h ⊢
  omega
theorem dig_ok {u e l b : Int} (H : allN = true) (h : okN u e l b = true) {n : Int} (h0 : 0 ≤ n) (hn : n < b) : ((rodsU u l).any fun r => worthOf e r == n) = true := by
  obtain ⟨a1, a2, a3, a4, a5, a6, a7, a8, a9, a10⟩ := split_N h
  simp only [allN, List.all_eq_true, Bool.or_eq_true, decide_eq_true_eq] at H
  have := H u.toNat (List.mem_range.mpr (by omega)) (e - 1).toNat (List.mem_range.mpr (by omega)) (l - 1).toNat (List.mem_range.mpr (by omega))
  rcases this with z | z
  · exfalso; omega
  · have hm : n.toNat < u.toNat * ((e - 1).toNat + 1) + ((l - 1).toNat + 1) + 1 := by
      have e1 : (((u.toNat * ((e - 1).toNat + 1) : Nat)) : Int) = u * e := by
        rw [Int.natCast_mul, show ((u.toNat : Nat) : Int) = u by omega]
        congr 1
        omega
      omega
    have := z n.toNat (List.mem_range.mpr hm)
    rw [show ((u.toNat : Nat) : Int) = u by omega, show (((e - 1).toNat : Nat) : Int) + 1 = e by omega, show (((l - 1).toNat : Nat) : Int) + 1 = l by omega, show ((n.toNat : Nat) : Int) = n by omega] at this
    exact this
end Rods
theorem Rods.allN_true : Rods.allN = true := by decide +kernel
namespace Rods
open PySem L2 BX
open PyProof.Rows hiding St
theorem seq_nx {F G : Rho → Option Out} {ρ ρ1 : Rho} (h : F ρ = some (.nx ρ1)) : seqS F G ρ = G ρ1 := by
  unfold seqS
  rw [h]
  rfl
theorem body_rt {N : List Str} {n : Nat} {B : Rho → Option Out} {ds : List PyData} {d : PyData} (hl : ds.length = n) (h : B (startR N ds) = some (.rt d)) : bodyD N n B ds = some d := by
  unfold bodyD
  rw [if_pos hl, h]
theorem few_len {ds : List PyData} (h : ds.length < 10000) : few ds = true := by
  rw [few]
  refine decide_eq_true ?_
  omega
theorem gIsM {u e l b : Int} (H : allN = true) (h : okN u e l b = true) : gIsManner [four u e l b] = some (.bool true) := by
  obtain ⟨a1, a2, a3, a4, a5, a6, a7, a8, a9, a10⟩ := split_N h
  rw [gIsManner_eq a1 a2 a3 (by omega) (by omega) (by omega) a8 a9, gHasAll_eq a1 (by omega) (by omega) (by omega) (by omega) (by omega)]
  congr 2
  refine List.all_eq_true.mpr fun d hd => ?_
  have := dig_ok H h (n := (d : Int)) (by omega) (by have := List.mem_range.mp hd; omega)
  simpa [List.any_map, Function.comp_def] using this
theorem okS_split {u l : Int} {ps : List (Int × Int)} (h : okS u l ps = true) : 1 ≤ ps.length ∧ ps.length ≤ 4 ∧ ps.all (okP u l) = true := by
  simp only [okS, Bool.and_eq_true, decide_eq_true_eq] at h
  exact ⟨h.1.1, h.1.2, h.2⟩
theorem okS_mk {u l : Int} {ps : List (Int × Int)} (h1 : 1 ≤ ps.length) (h2 : ps.length ≤ 4) (h3 : ps.all (okP u l) = true) : okS u l ps = true := by
  simp only [okS, Bool.and_eq_true, decide_eq_true_eq]
  exact ⟨⟨h1, h2⟩, h3⟩
end Rods
namespace Rods
open PySem L2 BX
open PyProof.Rows hiding St
section
variable {u e l b : Int} {ps qs : List (Int × Int)}
theorem bodyX_at {N : List Str} {n : Nat} {F : Rho → Option Str} {ds : List PyData} (hl : ds.length = n) : bodyX N n F ds = F (startR N ds) := by
  unfold bodyX
  rw [if_pos hl]
theorem eqv_pr (p q : Int × Int) : PyData.eqv (pr p) (pr q) = decide (p = q) := by
  obtain ⟨a, b⟩ := p
  obtain ⟨c, d⟩ := q
  simp only [pr, PyData.eqv, PyData.eqvAll, Prod.mk.injEq, Bool.and_true, Bool.decide_and]
  rfl
theorem eqvAll_pr : ∀ (ps qs : List (Int × Int)), PyData.eqvAll (ps.map pr) (qs.map pr) = decide (ps = qs)
  | [], [] => by simp [PyData.eqvAll]
  | [], q :: qs => by simp [PyData.eqvAll]
  | p :: ps, [] => by simp [PyData.eqvAll]
  | p :: ps, q :: qs => by simp [PyData.eqvAll, eqv_pr, eqvAll_pr ps qs]
theorem eqv_sett (ps qs : List (Int × Int)) : PyData.eqv (sett ps) (sett qs) = decide (ps = qs) := by
  unfold sett PyData.eqv
  exact eqvAll_pr ps qs
theorem okD_sett (ps : List (Int × Int)) : okD (sett ps) = true := by
  have h1 : ∀ ps : List (Int × Int), PyData.canLayAll0 (ps.map pr) = true := fun ps => by
    induction ps with
    | nil => rfl
    | cons p ps ih => simp [PyData.canLayAll0, PyData.canLay0, pr, ih]
  have h2 : ∀ ps : List (Int × Int), PyData.depthAll (ps.map pr) ≤ 1 := fun ps => by
    induction ps with
    | nil => simp [PyData.depthAll]
    | cons p ps ih => simp [PyData.depthAll, PyData.depth, pr] at ih ⊢; omega
  have := h2 ps
  simp [okD, sett, PyData.canLay0, h1, PyData.depth]
  omega
theorem ne_sett (ps qs : List (Int × Int)) : dNe (sett ps) (sett qs) = some (.bool (!decide (ps = qs))) := by
  unfold dNe
  rw [if_pos ⟨okD_sett ps, okD_sett qs⟩, eqv_sett]
end
end Rods
namespace BX
open PySem PySem.Spec L2
open PyProof.Rows hiding St
theorem loop_inv {ga : PyData → Rho → Option Rho} {F : Rho → Option Out} (Iv : Nat → Rho → Prop) : ∀ (ds : List PyData) (i : Nat) (ρ : Rho), Iv i ρ →
    (∀ j d ρ, ds[j]? = some d → Iv (i + j) ρ → ∃ ρ1 ρ2, ga d ρ = some ρ1 ∧ F ρ1 = some (.nx ρ2) ∧ Iv (i + j + 1) ρ2) → ∃ ρ', loopD ga F ds ρ = some (.nx ρ') ∧ Iv (i + ds.length) ρ'
  | [], i, ρ, h, _ => ⟨ρ, rfl, h⟩
  | d :: ds, i, ρ, h, hs => by
    obtain ⟨ρ1, ρ2, h1, h2, h3⟩ := hs 0 d ρ rfl h
    obtain ⟨ρ', h4, h5⟩ := loop_inv Iv ds (i + 1) ρ2 h3 fun j d ρ hd hi => by
      have := hs (j + 1) d ρ (by simpa using hd) (by rw [show i + (j + 1) = i + 1 + j by omega]; exact hi)
      rw [show i + 1 + j + 1 = i + (j + 1) + 1 by omega]; exact this
    refine ⟨ρ', ?_, by rw [List.length_cons, show i + (ds.length + 1) = i + 1 + ds.length by omega]; exact h5⟩
    simp [loopD, h1, h2, h4]
theorem rngL_get {n j : Nat} {d : PyData} (h : (rngL 0 n)[j]? = some d) : j < n ∧ d = .int j := by
  simp only [rngL, List.getElem?_map] at h
  cases hj : (List.range n)[j]? with
  | none => rw [hj] at h; cases h
  | some k =>
    rw [hj] at h
    obtain ⟨h1, h2⟩ := List.getElem?_eq_some_iff.mp hj
    simp at h1 h2
    subst h2
    simp at h
    exact ⟨h1, h.symm⟩
theorem rngL_len (n : Nat) : (rngL 0 n).length = n := by simp [rngL]
end BX
namespace Rods
open PySem L2 BX
open PyProof.Rows hiding St
section
variable {u e l b : Int} {ps qs : List (Int × Int)}
theorem add_tup {xs ys : List PyData} (hx : xs ≠ [] ∨ True) (hl : xs.length + ys.length < 10000) : dAdd (.tuple xs) (.tuple ys) = some (.tuple (xs ++ ys)) := by
  cases xs with
  | nil => rfl
  | cons x xs =>
    have hf : few ((x :: xs) ++ ys) = true := few_len (by rw [List.length_append]; exact hl)
    show (if few ((x :: xs) ++ ys) = true then some (PyData.tuple ((x :: xs) ++ ys)) else none) = _
    rw [if_pos hf]
theorem set_in {ns : List Int} (hn : ns.length < 1000000) (h : okN u e l b = true) {at_ : Int} (ha : 0 ≤ at_) {j : Nat} (hj : j < 4) {x3 x4 x7 : Option PyData} (hq : qs.length ≤ 4) :
    ∃ p, okP u l p = true ∧ bSetIn.1 [some (scr ns), some (.int at_), some (four u e l b), x3, x4, some (sett qs), some (.int (j : Int)), x7] = some (.nx [some (scr ns), some (.int at_), some (four u e l b), x3, x4, some (sett (qs ++ [p])), some (.int (j : Int)), some (pr p)]) := by
  obtain ⟨a1, a2, a3, a4, a5, a6, a7, a8, a9, a10⟩ := split_N h
  obtain ⟨x, d1, x0, x1⟩ := gDrawn_ex ns hn (at_ + 1 + 2 * (j : Int)) (u + 1) (by omega) (by omega)
  obtain ⟨y, d2, y0, y1⟩ := gDrawn_ex ns hn (at_ + 2 + 2 * (j : Int)) (l + 1) (by omega) (by omega)
  have m1 : dMul (.int 2) (.int (j : Int)) = some (.int (2 * (j : Int))) := mul_small ⟨by omega, by omega⟩
  have f2 : few [PyData.int x, .int y] = true := few_len (by simp)
  have f1 : few [PyData.tuple [.int x, .int y]] = true := few_len (by simp)
  have ad : dAdd (sett qs) (.tuple [.tuple [.int x, .int y]]) = some (sett (qs ++ [(x, y)])) := by
    have := add_tup (xs := qs.map pr) (ys := [pr (x, y)]) (.inr trivial) (by simp; omega)
    rw [show sett (qs ++ [(x, y)]) = .tuple (qs.map pr ++ [pr (x, y)]) by simp [sett]]
    exact this
  generalize scr ns = S at *
  refine ⟨(x, y), ?_, ?_⟩
  · simp only [okP, Bool.and_eq_true, decide_eq_true_eq]
    exact ⟨⟨⟨x0, by omega⟩, y0⟩, by omega⟩
  · simp only [bSetIn]
    refine (seq_nx (ρ1 := [some S, some (.int at_), some (four u e l b), x3, x4, some (sett qs), some (.int (j : Int)), some (.tuple [.int x, .int y])]) ?_).trans ?_
    · simp only [asgS, tupD, calD, consA, nilA, op2, lkp, cst, asgN, List.getElem?_cons_zero, List.getElem?_cons_succ, Option.join_some, Option.bind_some, Option.map_some, ix0, ix2, m1, add_int, d1, d2, f2, if_true, List.set_cons_succ, List.set_cons_zero]
    simp only [seqS, asgS, tupD, consA, nilA, op2, lkp, asgN, List.getElem?_cons_zero, List.getElem?_cons_succ, Option.join_some, Option.bind_some, Option.map_some, f1, if_true, ad, List.set_cons_succ, List.set_cons_zero, nxtS]
    rfl
end
end Rods
namespace Rods
open PySem L2 BX
open PyProof.Rows hiding St
theorem cutTo (ds : List PyData) (k : Nat) : cutT ds none (some (k : Int)) = ds.take k := by
  unfold cutT
  rw [HT.sIx_none, HT.sIx_nat, List.drop_zero, Nat.sub_zero]
  by_cases h : k ≤ ds.length
  · rw [Nat.min_eq_left h]
  · rw [Nat.min_eq_right (by omega), List.take_of_length_le (by omega), List.take_of_length_le (by omega)]
theorem cutFrom (ds : List PyData) (k : Nat) : cutT ds (some (k : Int)) none = ds.drop k := by
  unfold cutT
  rw [HT.sIx_none, HT.sIx_nat]
  by_cases h : k ≤ ds.length
  · rw [Nat.min_eq_left h, List.take_of_length_le (by rw [List.length_drop]; omega)]
  · rw [Nat.min_eq_right (by omega), List.drop_of_length_le (by omega), List.drop_of_length_le (by omega), List.take_nil]
end Rods
namespace Rods
open PySem L2 BX
open PyProof.Rows hiding St
section
variable {u e l b : Int} {ps qs : List (Int × Int)}
theorem gSet_ex {ns : List Int} (hn : ns.length < 1000000) (h : okN u e l b = true) {at_ : Int} (ha : 0 ≤ at_) : ∃ ps, gSet [scr ns, .int at_, four u e l b, .int 4] = some (sett ps) ∧ okS u l ps = true := by
  obtain ⟨r, d0, r0, r1⟩ := gDrawn_ex ns hn at_ 4 ha (by omega)
  have hr : rng1 [.int (1 + r)] = some (rngL 0 (1 + r).toNat) := rng1_eq (by omega) (by omega)
  obtain ⟨ρ', hl, hI⟩ := loop_inv (ga := asgN 6) (F := bSetIn.1) (fun i ρ => ∃ qs x6 x7, ρ = [some (scr ns), some (.int at_), some (four u e l b), some (.int 4), some (.int (1 + r)), some (sett qs), x6, x7] ∧ qs.length = i ∧ qs.all (okP u l) = true) (rngL 0 (1 + r).toNat) 0
    [some (scr ns), some (.int at_), some (four u e l b), some (.int 4), some (.int (1 + r)), some (sett []), none, none] ⟨[], none, none, rfl, rfl, rfl⟩ (fun j d ρ hd hi => by
      obtain ⟨hj, rfl⟩ := rngL_get hd
      obtain ⟨qs, x6, x7, rfl, hlen, hall⟩ := hi
      obtain ⟨p, hp, hb⟩ := set_in hn h ha (j := j) (by omega) (x3 := some (.int 4)) (x4 := some (.int (1 + r))) (x7 := x7) (qs := qs) (by omega)
      exact ⟨_, _, rfl, hb, qs ++ [p], _, _, rfl, by rw [List.length_append, hlen]; rfl, by rw [List.all_append, hall, List.all_cons, hp]; rfl⟩)
  obtain ⟨qs, x6, x7, rfl, hlen, hall⟩ := hI
  rw [rngL_len, Nat.zero_add] at hlen
  refine ⟨qs, body_rt rfl ?_, okS_mk (by omega) (by omega) hall⟩
  generalize scr ns = S at *
  show bSet.1 [some S, some (.int at_), some (four u e l b), some (.int 4), none, none, none, none] = _
  simp only [bSet]
  refine (seq_nx (ρ1 := [some S, some (.int at_), some (four u e l b), some (.int 4), some (.int (1 + r)), none, none, none]) ?_).trans ?_
  · simp only [asgS, calD, consA, nilA, op2, lkp, cst, asgN, List.getElem?_cons_zero, List.getElem?_cons_succ, Option.join_some, Option.bind_some, Option.map_some, d0, add_int, List.set_cons_succ, List.set_cons_zero]
  refine (seq_nx (ρ1 := [some S, some (.int at_), some (four u e l b), some (.int 4), some (.int (1 + r)), some (sett []), none, none]) rfl).trans ?_
  refine (seq_nx (ρ1 := [some S, some (.int at_), some (four u e l b), some (.int 4), some (.int (1 + r)), some (sett qs), x6, x7]) ?_).trans ?_
  · show (Option.bind (Option.bind _ rng1) _) = _
    simp only [consA, nilA, lkp, List.getElem?_cons_zero, List.getElem?_cons_succ, Option.join_some, Option.bind_some, Option.map_some, hr]
    exact hl
  rfl
end
end Rods
namespace Rods
open PySem L2 BX
open PyProof.Rows hiding St
noncomputable def whB (a b : Int) : PyData → Bool
  | .int i => decide (a ≤ i) && decide (i ≤ b)
  | _ => false
theorem gIsWhole_at (d : PyData) (hd : noD d = true) (a b : Int) : gIsWhole [d, .int a, .int b] = some (.bool (whB a b d)) := by
  cases d with
  | int i => exact gIsWhole_int i a b
  | dict k => simp [noD] at hd
  | _ => simp [gIsWhole, bodyD, bIsWhole, startR, seqS, ifS, orB, tst, lkp, isiB, tyn, asB, notB, chn, dCmp, retD, nxtS, whB, cst]
noncomputable def rodB (u l : Int) : PyData → Bool
  | .tuple [x, y] => whB 0 u x && whB 0 l y
  | _ => false
theorem noDs_mem {ds : List PyData} (h : noDs ds = true) : ∀ d ∈ ds, noD d = true := by
  induction ds with
  | nil => intro d hd; cases hd
  | cons x xs ih =>
    have h' : noD x = true ∧ noDs xs = true := by simpa [noDs] using h
    intro d hd
    rcases List.mem_cons.mp hd with rfl | q
    · exact h'.1
    · exact ih h'.2 d q
end Rods
namespace Rods
open PySem L2 BX
open PyProof.Rows hiding St
section
variable {u e l b : Int}
theorem gIsRod_no (d : PyData) (hd : noD d = true) (h : ∀ x y, d ≠ .tuple [x, y]) : gIsRod [four u e l b, d] = some (.bool false) := by
  cases d with
  | dict k => simp [noD] at hd
  | tuple ds =>
    have hl : ¬ (ds.length : Int) = 2 := fun z => by
      have z' : ds.length = 2 := by omega
      match ds, z' with
      | [x, y], _ => exact h x y rfl
    simp [gIsRod, bodyD, bIsRod, startR, seqS, ifS, orB, notB, tst, isiB, tyn, asB, lkp, op2, calD, consA, nilA, dLen, cst, dNe, okD_int, eqv_int, nxtS, retD, hl]
  | _ => simp [gIsRod, bodyD, bIsRod, startR, seqS, ifS, orB, notB, tst, isiB, tyn, asB, lkp, op2, calD, consA, nilA, dLen, cst, dNe, okD_int, eqv_int, nxtS, retD]
theorem gIsRod_at (d : PyData) (hd : noD d = true) : gIsRod [four u e l b, d] = some (.bool (rodB u l d)) := by
  by_cases h : ∃ x y, d = .tuple [x, y]
  · obtain ⟨x, y, rfl⟩ := h
    have hx : noD x = true ∧ noD y = true := by simpa [noD, noDs] using hd
    have w1 := gIsWhole_at x hx.1 0 u
    have w2 := gIsWhole_at y hx.2 0 l
    cases c1 : whB 0 u x <;> rw [c1] at w1 <;> simp [gIsRod, bodyD, bIsRod, startR, seqS, ifS, orB, notB, tst, isiB, tyn, asB, lkp, op2, calD, consA, nilA, dLen, cst, dNe, okD_int, eqv_int, nxtS, retD, andV, four, dIx, atI, ixN, w1, w2, rodB, c1]
  · rw [gIsRod_no d hd fun x y z => h ⟨x, y, z⟩]
    congr 2
    unfold rodB
    split
    · exact absurd ⟨_, _, rfl⟩ h
    · rfl
noncomputable def setB (u l : Int) : PyData → Bool
  | .tuple ds => decide (1 ≤ ds.length) && decide (ds.length ≤ 4) && ds.all (rodB u l)
  | _ => false
theorem gIsSet_at (hm : gCheck [four u e l b] = some .none) (d : PyData) (hd : noD d = true) : gIsSet [four u e l b, d] = some (.bool (setB u l d)) := by
  refine body_rt rfl ?_
  show bIsSet.1 [some (four u e l b), some d] = _
  simp only [bIsSet]
  refine (seq_nx (ρ1 := [some (four u e l b), some d]) ?_).trans ?_
  · simp only [drpS, calD, consA, nilA, lkp, List.getElem?_cons_zero, List.getElem?_cons_succ, Option.join_some, Option.bind_some, Option.map_some, hm]
  cases d with
  | dict k => simp [noD] at hd
  | tuple ds =>
    by_cases h1 : 1 ≤ ds.length
    · by_cases h4 : ds.length ≤ 4
      · have hf : few ds = true := few_len (by omega)
        have c1 : dCmp (fun i j => decide (i ≤ j)) (.int 1) (.int (ds.length : Int)) = some (.bool true) := by
          show some (PyData.bool (decide ((1 : Int) ≤ (ds.length : Int)))) = _
          rw [decide_eq_true (by omega)]
        have c2 : dCmp (fun i j => decide (i ≤ j)) (.int (ds.length : Int)) (.int 4) = some (.bool true) := by
          show some (PyData.bool (decide ((ds.length : Int) ≤ 4))) = _
          rw [decide_eq_true (by omega)]
        refine (seq_nx (ρ1 := [some (four u e l b), some (.tuple ds)]) ?_).trans ?_
        · simp [ifS, orB, notB, tst, isiB, tyn, asB, lkp, chn, calD, consA, nilA, dLen, cst, nxtS, c1, c2]
        simp only [seqS, retD, calD, consA, nilA, compD, itT, lkp, itemsT, List.getElem?_cons_zero, List.getElem?_cons_succ, Option.join_some, Option.bind_some, Option.map_some, hf, if_true, capR, List.map_cons, List.map_nil, Option.bind_none]
        rw [compL_map (fun d => .bool (rodB u l d))]
        · have : bls (ds.map fun d => PyData.bool (rodB u l d)) = some (ds.map (rodB u l)) := bls_map (rodB u l) _
          simp only [Option.map_some, Option.bind_some, dAll, this, setB, decide_eq_true h1, decide_eq_true h4, Bool.true_and, List.all_map, Function.comp_def, id]
        · intro d hd'
          simp [calD, consA, nilA, lkp, gIsRod_at (e := e) (b := b) d (noDs_mem (by simpa [noD] using hd) d hd')]
      · have c1 : dCmp (fun i j => decide (i ≤ j)) (.int 1) (.int (ds.length : Int)) = some (.bool true) := by
          show some (PyData.bool (decide ((1 : Int) ≤ (ds.length : Int)))) = _
          rw [decide_eq_true (by omega)]
        have c2 : dCmp (fun i j => decide (i ≤ j)) (.int (ds.length : Int)) (.int 4) = some (.bool false) := by
          show some (PyData.bool (decide ((ds.length : Int) ≤ 4))) = _
          rw [decide_eq_false (by omega)]
        simp [seqS, ifS, orB, notB, tst, isiB, tyn, asB, lkp, chn, calD, consA, nilA, dLen, cst, nxtS, c1, c2, retD, setB, h4]
    · have c1 : dCmp (fun i j => decide (i ≤ j)) (.int 1) (.int (ds.length : Int)) = some (.bool false) := by
        show some (PyData.bool (decide ((1 : Int) ≤ (ds.length : Int)))) = _
        rw [decide_eq_false (by omega)]
      simp [seqS, ifS, orB, notB, tst, isiB, tyn, asB, lkp, chn, calD, consA, nilA, dLen, cst, nxtS, c1, retD, setB, h1]
  | _ => simp [seqS, ifS, orB, notB, tst, isiB, tyn, asB, lkp, chn, calD, consA, nilA, cst, nxtS, retD, setB]
theorem gChkSet_at (hm : gCheck [four u e l b] = some .none) (d : PyData) (hd : noD d = true) (hs : setB u l d = true) : gChkSet [four u e l b, d] = some .none := by
  have g := gIsSet_at (e := e) hm d hd
  rw [hs] at g
  simp [gChkSet, bodyD, bChkSet, startR, seqS, ifS, notB, tst, asB, calD, consA, nilA, lkp, g, nxtS]
theorem gChkSet_no (hm : gCheck [four u e l b] = some .none) (d : PyData) (hd : noD d = true) (hs : setB u l d = false) : gChkSet [four u e l b, d] = none := by
  have g := gIsSet_at (e := e) hm d hd
  rw [hs] at g
  simp [gChkSet, bodyD, bChkSet, startR, seqS, ifS, notB, tst, asB, calD, consA, nilA, lkp, g, nevS]
end
end Rods
namespace Rods
open PySem L2 BX
open PyProof.Rows hiding St
theorem gCheck_no {d : PyData} (h : gIsManner [d] = some (.bool false)) : gCheck [d] = none := by
  simp [gCheck, bodyD, bCheck, startR, seqS, ifS, notB, tst, asB, calD, consA, nilA, lkp, h, nevS]
theorem tCheck_no {d : PyData} (h : gIsManner [d] = some (.bool false)) : tCheck [d] = some ("NoManner" : Str) := by
  refine (bodyX_at rfl).trans ?_
  show xCheck.1 [some d] = _
  simp [xCheck, ifX, notB, tst, asB, calD, consA, nilA, lkp, h]
theorem tCheck_ok {d : PyData} (h : gIsManner [d] = some (.bool true)) : tCheck [d] = none := by
  refine (bodyX_at rfl).trans ?_
  show xCheck.1 [some d] = _
  simp [xCheck, ifX, notB, tst, asB, calD, consA, nilA, lkp, h, nevX]
theorem gIsSet_noM {m d : PyData} (h : gIsManner [m] = some (.bool false)) : gIsSet [m, d] = none := by
  have g := gCheck_no h
  simp [gIsSet, bodyD, bIsSet, startR, seqS, drpS, calD, consA, nilA, lkp, g]
theorem tIsSet_noM {m d : PyData} (h : gIsManner [m] = some (.bool false)) : tIsSet [m, d] = some ("NoManner" : Str) := by
  have g := tCheck_no h
  refine (bodyX_at rfl).trans ?_
  show xIsSet.1 [some m, some d] = _
  simp [xIsSet, calD, consA, nilA, lkp, g]
theorem tIsSet_ok {m d : PyData} (h : gIsManner [m] = some (.bool true)) : tIsSet [m, d] = none := by
  have g := tCheck_ok h
  refine (bodyX_at rfl).trans ?_
  show xIsSet.1 [some m, some d] = _
  simp [xIsSet, calD, consA, nilA, lkp, g]
theorem gChkSet_noM {m d : PyData} (h : gIsManner [m] = some (.bool false)) : gChkSet [m, d] = none := by
  have g := gIsSet_noM (d := d) h
  simp [gChkSet, bodyD, bChkSet, startR, seqS, ifS, notB, tst, asB, calD, consA, nilA, lkp, g]
theorem tChkSet_noM {m d : PyData} (h : gIsManner [m] = some (.bool false)) : tChkSet [m, d] = some ("NoManner" : Str) := by
  have g := tIsSet_noM (d := d) h
  refine (bodyX_at rfl).trans ?_
  show xChkSet.1 [some m, some d] = _
  simp [xChkSet, orX, calD, consA, nilA, lkp, g]
theorem tChkSet_no {u e l b : Int} (hM : gIsManner [four u e l b] = some (.bool true)) {d : PyData} (hd : noD d = true) (hs : setB u l d = false) : tChkSet [four u e l b, d] = some ("NoSetting" : Str) := by
  have g := gIsSet_at (e := e) (gCheck_eq hM) d hd
  rw [hs] at g
  have g2 := tIsSet_ok (d := d) hM
  refine (bodyX_at rfl).trans ?_
  show xChkSet.1 [some (four u e l b), some d] = _
  simp [xChkSet, orX, ifX, notB, tst, asB, calD, consA, nilA, lkp, g, g2]
theorem tChkSet_ok {u e l b : Int} (hM : gIsManner [four u e l b] = some (.bool true)) {d : PyData} (hd : noD d = true) (hs : setB u l d = true) : tChkSet [four u e l b, d] = none := by
  have g := gIsSet_at (e := e) (gCheck_eq hM) d hd
  rw [hs] at g
  have g2 := tIsSet_ok (d := d) hM
  refine (bodyX_at rfl).trans ?_
  show xChkSet.1 [some (four u e l b), some d] = _
  simp [xChkSet, orX, ifX, notB, tst, asB, calD, consA, nilA, lkp, g, g2, nevX]
theorem rodB_pr {u l : Int} (p : Int × Int) : rodB u l (pr p) = okP u l p := by
  simp [rodB, pr, whB, okP, Bool.and_assoc]
theorem setB_sett {u l : Int} (ps : List (Int × Int)) : setB u l (sett ps) = okS u l ps := by
  simp only [setB, sett, okS, List.length_map, List.all_map]
  congr 2
  funext p
  exact rodB_pr p
theorem noDs_pr : ∀ ps : List (Int × Int), noDs (ps.map pr) = true
  | [] => rfl
  | p :: ps => by simp [noDs, noD, pr, noDs_pr ps]
theorem noD_sett (ps : List (Int × Int)) : noD (sett ps) = true := by
  simp [noD, sett, noDs_pr]
theorem bodyX_at' {N : List Str} {n : Nat} {F : Rho → Option Str} {ds : List PyData} {c : Option Str} (hl : ds.length = n) (h : F (startR N ds) = c) : bodyX N n F ds = c := (bodyX_at hl).trans h
theorem body_no {N : List Str} {n : Nat} {B : Rho → Option Out} {ds : List PyData} (hl : ds.length = n) (h : B (startR N ds) = none) : bodyD N n B ds = none := by
  unfold bodyD; rw [if_pos hl, h]
end Rods
namespace Rods
open PySem L2 BX
open PyProof.Rows hiding St
section
variable {u e l b : Int} {ps qs : List (Int × Int)}
theorem chk_ok (H : allN = true) (h : okN u e l b = true) (hs : okS u l ps = true) : gChkSet [four u e l b, sett ps] = some .none ∧ tChkSet [four u e l b, sett ps] = none := by
  have hM := gIsM H h
  have hb : setB u l (sett ps) = true := by rw [setB_sett]; exact hs
  exact ⟨gChkSet_at (gCheck_eq hM) _ (noD_sett ps) hb, tChkSet_ok hM (noD_sett ps) hb⟩
theorem chk_no (H : allN = true) (h : okN u e l b = true) {d : PyData} (hd : noD d = true) (hs : setB u l d = false) : gChkSet [four u e l b, d] = none ∧ tChkSet [four u e l b, d] = some ("NoSetting" : Str) := by
  have hM := gIsM H h
  exact ⟨gChkSet_no (gCheck_eq hM) _ hd hs, tChkSet_no hM hd hs⟩
end
end Rods
namespace Rods
open PySem L2 BX
open PyProof.Rows hiding St
theorem fewN {ds : List PyData} (h : ds.length < 50) : few ds = true := few_len (by omega)
theorem fw1 {a : PyData} : few [a] = true := fewN (by simp)
theorem fw2 {a b : PyData} : few [a, b] = true := fewN (by simp)
theorem fw3 {a b c : PyData} : few [a, b, c] = true := fewN (by simp)
theorem fw4 {a b c d : PyData} : few [a, b, c, d] = true := fewN (by simp)
theorem fw5 {a b c d e : PyData} : few [a, b, c, d, e] = true := fewN (by simp)
theorem fw8 {a b c d e f g h : PyData} : few [a, b, c, d, e, f, g, h] = true := fewN (by simp)
theorem oe_none {α : Type} (x : Unit → Option α) : (none : Option α).orElse x = x () := rfl
theorem oe_some {α : Type} (a : α) (x : Unit → Option α) : (some a).orElse x = some a := rfl
noncomputable def shl (n : Nat) (d : PyData) : Prop := d.canLay0 = true ∧ d.depth ≤ n
theorem lay_all {ds : List PyData} : PyData.canLayAll0 ds = true ↔ ∀ d ∈ ds, d.canLay0 = true := by
  induction ds with
  | nil => simp [PyData.canLayAll0]
  | cons x xs ih => simp [PyData.canLayAll0, ih]
theorem dep_all {ds : List PyData} {n : Nat} : PyData.depthAll ds ≤ n ↔ ∀ d ∈ ds, d.depth ≤ n := by
  induction ds with
  | nil => simp [PyData.depthAll]
  | cons x xs ih => simp only [PyData.depthAll, List.mem_cons, forall_eq_or_imp, ← ih]; omega
theorem shl_tup {n : Nat} {ds : List PyData} : shl (n + 1) (.tuple ds) ↔ ∀ d ∈ ds, shl n d := by
  constructor
  · rintro ⟨h1, h2⟩ d hd
    refine ⟨lay_all.mp (by simpa [PyData.canLay0] using h1) d hd, dep_all.mp ?_ d hd⟩
    simp only [PyData.depth] at h2; omega
  · intro h
    refine ⟨by simp only [PyData.canLay0]; exact lay_all.mpr fun d hd => (h d hd).1, ?_⟩
    have := dep_all.mpr fun d hd => (h d hd).2
    simp only [PyData.depth]; omega
theorem shl_lst {n : Nat} {ds : List PyData} : shl (n + 1) (.list ds) ↔ ∀ d ∈ ds, shl n d := by
  constructor
  · rintro ⟨h1, h2⟩ d hd
    refine ⟨lay_all.mp (by simpa [PyData.canLay0] using h1) d hd, dep_all.mp ?_ d hd⟩
    simp only [PyData.depth] at h2; omega
  · intro h
    refine ⟨by simp only [PyData.canLay0]; exact lay_all.mpr fun d hd => (h d hd).1, ?_⟩
    have := dep_all.mpr fun d hd => (h d hd).2
    simp only [PyData.depth]; omega
theorem shl_ok {n : Nat} {d : PyData} (h : shl n d) (hn : n < 30) : okD d = true := by
  unfold okD
  rw [h.1, decide_eq_true (show d.depth < 30 by have := h.2; omega)]; rfl
theorem shl_int (i : Int) : shl 1 (.int i) := ⟨rfl, by simp [PyData.depth]⟩
theorem ix_mem {ds : List PyData} {k : Int} (h0 : 0 ≤ k) (hk : k < ds.length) (hl : ds.length < 9999) : ∃ v, dIx (.list ds) (.int k) = some v ∧ v ∈ ds := by
  have hlt : k.toNat < ds.length := by omega
  refine ⟨ds[k.toNat], ?_, List.getElem_mem _⟩
  have e1 : ixN ds.length k = some k.toNat := ixN_of h0 hlt
  show (if ds.length < 1000000 then atI ds k else none) = _
  rw [if_pos (by omega)]
  unfold atI
  rw [e1]
  show ds[k.toNat]? = _
  rw [List.getElem?_eq_getElem hlt]
theorem ix_sett {ps : List (Int × Int)} {i : Nat} {p : Int × Int} (h4 : ps.length ≤ 4) (hd : ps[i]? = some p) : dIx (sett ps) (.int (i : Int)) = some (pr p) := by
  have hi : i < ps.length := (List.getElem?_eq_some_iff.mp hd).1
  show (if (ps.map pr).length < 1000000 then atI (ps.map pr) (i : Int) else none) = _
  rw [if_pos (by rw [List.length_map]; omega)]
  unfold atI
  rw [ixN_of (by omega) (by rw [List.length_map]; simpa using hi), Option.bind_some, List.getElem?_map]
  rw [show ((i : Int)).toNat = i by simp, hd]; rfl
end Rods

end
section
set_option Elab.async false
set_option linter.all false
set_option maxRecDepth 100000
set_option maxHeartbeats 4000000
namespace Rods
open PySem L2 BX
open PyProof.Rows hiding St
noncomputable abbrev rfd (i : Int) : PyData := .tuple [.str "refused", .int i]
theorem ref_NoManner : gLRefused [excD "NoManner"] = some (rfd 0) := by kernel_rfl
theorem mem_NoManner : ("NoManner" : Str) ∈ errNames := by decide
theorem ref_NoSetting : gLRefused [excD "NoSetting"] = some (rfd 1) := by kernel_rfl
theorem mem_NoSetting : ("NoSetting" : Str) ∈ errNames := by decide
theorem ref_NoMove : gLRefused [excD "NoMove"] = some (rfd 3) := by kernel_rfl
theorem mem_NoMove : ("NoMove" : Str) ∈ errNames := by decide
theorem ixf0 : dIx (.list [fnD "is_move", fnD "moved", fnD "run"]) (.int 0) = some (fnD "is_move") := rfl
theorem nf01 : isFnD "is_move" (fnD "moved") = false := by decide
theorem nf02 : isFnD "is_move" (fnD "run") = false := by decide
theorem ixf1 : dIx (.list [fnD "is_move", fnD "moved", fnD "run"]) (.int 1) = some (fnD "moved") := rfl
theorem nf10 : isFnD "moved" (fnD "is_move") = false := by decide
theorem nf12 : isFnD "moved" (fnD "run") = false := by decide
theorem ixf2 : dIx (.list [fnD "is_move", fnD "moved", fnD "run"]) (.int 2) = some (fnD "run") := rfl
theorem nf20 : isFnD "run" (fnD "is_move") = false := by decide
theorem nf21 : isFnD "run" (fnD "moved") = false := by decide
theorem lt03 : dCmp (fun i j => decide (i < j)) (.int 0) (.int 3) = some (.bool true) := rfl
theorem lt13 : dCmp (fun i j => decide (i < j)) (.int 1) (.int 3) = some (.bool true) := rfl
theorem lt23 : dCmp (fun i j => decide (i < j)) (.int 2) (.int 3) = some (.bool true) := rfl
theorem lt33 : dCmp (fun i j => decide (i < j)) (.int 3) (.int 3) = some (.bool false) := rfl
theorem told0 {m s t d : PyData} (g : gIsMove [m, s, t] = some d) : gLTold [.int 0, m, s, t] = some d := by
  refine body_rt rfl ?_
  show bLTold.1 [some (.int 0), some m, some s, some t, none] = _
  simp only [bLTold, tryA, seqS, ifS, ifD, ifX, andB, orB, notB, tst, op2, chn, calD, tupD, lstD, consA, nilA, lkp, cst, retD, drpS, asgS, asgN, nxtS, nxX, orX, nevX, nevS, asB, List.getElem?_cons_zero, List.getElem?_cons_succ, Option.join_some, Option.bind_some, Option.bind_none, Option.map_some, Option.map_none, List.set_cons_succ, List.set_cons_zero, Bool.not_true, Bool.not_false, Bool.false_eq_true, if_true, if_false, ixf0, ixf1, ixf2, nf01, nf02, nf10, nf12, nf20, nf21, isFnD_self, oe_none, oe_some, orD, calE, calEX, fw3, lt03, lt13, lt23, lt33, g]
theorem told0x {m s t r : PyData} {c : Str} (g : gIsMove [m, s, t] = none) (x : tIsMove [m, s, t] = some c) (hc : c ∈ errNames) (hr : gLRefused [excD c] = some r) : gLTold [.int 0, m, s, t] = some r := by
  refine body_rt rfl ?_
  show bLTold.1 [some (.int 0), some m, some s, some t, none] = _
  have hb : lkp 4 ((blank 5).set 4 (some (excD c))) = some (excD c) := rfl
  unfold lkp at hb
  simp only [bLTold, tryA, seqS, ifS, ifD, ifX, andB, orB, notB, tst, op2, chn, calD, tupD, lstD, consA, nilA, lkp, cst, retD, drpS, asgS, asgN, nxtS, nxX, orX, nevX, nevS, asB, List.getElem?_cons_zero, List.getElem?_cons_succ, Option.join_some, Option.bind_some, Option.bind_none, Option.map_some, Option.map_none, List.set_cons_succ, List.set_cons_zero, Bool.not_true, Bool.not_false, Bool.false_eq_true, if_true, if_false, ixf0, ixf1, ixf2, nf01, nf02, nf10, nf12, nf20, nf21, isFnD_self, oe_none, oe_some, orD, calE, calEX, fw3, lt03, lt13, lt23, lt33, g, x, hc, hb, hr]
theorem told1 {m s t d : PyData} (g : gMoved [m, s, t] = some d) : gLTold [.int 1, m, s, t] = some d := by
  refine body_rt rfl ?_
  show bLTold.1 [some (.int 1), some m, some s, some t, none] = _
  simp only [bLTold, tryA, seqS, ifS, ifD, ifX, andB, orB, notB, tst, op2, chn, calD, tupD, lstD, consA, nilA, lkp, cst, retD, drpS, asgS, asgN, nxtS, nxX, orX, nevX, nevS, asB, List.getElem?_cons_zero, List.getElem?_cons_succ, Option.join_some, Option.bind_some, Option.bind_none, Option.map_some, Option.map_none, List.set_cons_succ, List.set_cons_zero, Bool.not_true, Bool.not_false, Bool.false_eq_true, if_true, if_false, ixf0, ixf1, ixf2, nf01, nf02, nf10, nf12, nf20, nf21, isFnD_self, oe_none, oe_some, orD, calE, calEX, fw3, lt03, lt13, lt23, lt33, g]
theorem told1x {m s t r : PyData} {c : Str} (g : gMoved [m, s, t] = none) (x : tMoved [m, s, t] = some c) (hc : c ∈ errNames) (hr : gLRefused [excD c] = some r) : gLTold [.int 1, m, s, t] = some r := by
  refine body_rt rfl ?_
  show bLTold.1 [some (.int 1), some m, some s, some t, none] = _
  have hb : lkp 4 ((blank 5).set 4 (some (excD c))) = some (excD c) := rfl
  unfold lkp at hb
  simp only [bLTold, tryA, seqS, ifS, ifD, ifX, andB, orB, notB, tst, op2, chn, calD, tupD, lstD, consA, nilA, lkp, cst, retD, drpS, asgS, asgN, nxtS, nxX, orX, nevX, nevS, asB, List.getElem?_cons_zero, List.getElem?_cons_succ, Option.join_some, Option.bind_some, Option.bind_none, Option.map_some, Option.map_none, List.set_cons_succ, List.set_cons_zero, Bool.not_true, Bool.not_false, Bool.false_eq_true, if_true, if_false, ixf0, ixf1, ixf2, nf01, nf02, nf10, nf12, nf20, nf21, isFnD_self, oe_none, oe_some, orD, calE, calEX, fw3, lt03, lt13, lt23, lt33, g, x, hc, hb, hr]
theorem told2 {m s t d : PyData} (g : gRun [m, s, t] = some d) : gLTold [.int 2, m, s, t] = some d := by
  refine body_rt rfl ?_
  show bLTold.1 [some (.int 2), some m, some s, some t, none] = _
  simp only [bLTold, tryA, seqS, ifS, ifD, ifX, andB, orB, notB, tst, op2, chn, calD, tupD, lstD, consA, nilA, lkp, cst, retD, drpS, asgS, asgN, nxtS, nxX, orX, nevX, nevS, asB, List.getElem?_cons_zero, List.getElem?_cons_succ, Option.join_some, Option.bind_some, Option.bind_none, Option.map_some, Option.map_none, List.set_cons_succ, List.set_cons_zero, Bool.not_true, Bool.not_false, Bool.false_eq_true, if_true, if_false, ixf0, ixf1, ixf2, nf01, nf02, nf10, nf12, nf20, nf21, isFnD_self, oe_none, oe_some, orD, calE, calEX, fw3, lt03, lt13, lt23, lt33, g]
theorem told2x {m s t r : PyData} {c : Str} (g : gRun [m, s, t] = none) (x : tRun [m, s, t] = some c) (hc : c ∈ errNames) (hr : gLRefused [excD c] = some r) : gLTold [.int 2, m, s, t] = some r := by
  refine body_rt rfl ?_
  show bLTold.1 [some (.int 2), some m, some s, some t, none] = _
  have hb : lkp 4 ((blank 5).set 4 (some (excD c))) = some (excD c) := rfl
  unfold lkp at hb
  simp only [bLTold, tryA, seqS, ifS, ifD, ifX, andB, orB, notB, tst, op2, chn, calD, tupD, lstD, consA, nilA, lkp, cst, retD, drpS, asgS, asgN, nxtS, nxX, orX, nevX, nevS, asB, List.getElem?_cons_zero, List.getElem?_cons_succ, Option.join_some, Option.bind_some, Option.bind_none, Option.map_some, Option.map_none, List.set_cons_succ, List.set_cons_zero, Bool.not_true, Bool.not_false, Bool.false_eq_true, if_true, if_false, ixf0, ixf1, ixf2, nf01, nf02, nf10, nf12, nf20, nf21, isFnD_self, oe_none, oe_some, orD, calE, calEX, fw3, lt03, lt13, lt23, lt33, g, x, hc, hb, hr]
theorem told3 {m s t d : PyData} (g : gAllMoves [m, s] = some d) : gLTold [.int 3, m, s, t] = some d := by
  refine body_rt rfl ?_
  show bLTold.1 [some (.int 3), some m, some s, some t, none] = _
  simp only [bLTold, tryA, seqS, ifS, ifD, ifX, andB, orB, notB, tst, op2, chn, calD, tupD, lstD, consA, nilA, lkp, cst, retD, drpS, asgS, asgN, nxtS, nxX, orX, nevX, nevS, asB, List.getElem?_cons_zero, List.getElem?_cons_succ, Option.join_some, Option.bind_some, Option.bind_none, Option.map_some, Option.map_none, List.set_cons_succ, List.set_cons_zero, Bool.not_true, Bool.not_false, Bool.false_eq_true, if_true, if_false, ixf0, ixf1, ixf2, nf01, nf02, nf10, nf12, nf20, nf21, isFnD_self, oe_none, oe_some, orD, calE, calEX, fw3, lt03, lt13, lt23, lt33, g]
theorem told3x {m s t r : PyData} {c : Str} (g : gAllMoves [m, s] = none) (x : tAllMoves [m, s] = some c) (hc : c ∈ errNames) (hr : gLRefused [excD c] = some r) : gLTold [.int 3, m, s, t] = some r := by
  refine body_rt rfl ?_
  show bLTold.1 [some (.int 3), some m, some s, some t, none] = _
  have hb : lkp 4 ((blank 5).set 4 (some (excD c))) = some (excD c) := rfl
  unfold lkp at hb
  simp only [bLTold, tryA, seqS, ifS, ifD, ifX, andB, orB, notB, tst, op2, chn, calD, tupD, lstD, consA, nilA, lkp, cst, retD, drpS, asgS, asgN, nxtS, nxX, orX, nevX, nevS, asB, List.getElem?_cons_zero, List.getElem?_cons_succ, Option.join_some, Option.bind_some, Option.bind_none, Option.map_some, Option.map_none, List.set_cons_succ, List.set_cons_zero, Bool.not_true, Bool.not_false, Bool.false_eq_true, if_true, if_false, ixf0, ixf1, ixf2, nf01, nf02, nf10, nf12, nf20, nf21, isFnD_self, oe_none, oe_some, orD, calE, calEX, fw3, lt03, lt13, lt23, lt33, g, x, hc, hb, hr]

section
variable {m s t : PyData} {c : Str}
theorem move_c (g : gChkSet [m, s] = none) (x : tChkSet [m, s] = some c) : gIsMove [m, s, t] = none ∧ tIsMove [m, s, t] = some c := by
  constructor
  · simp [gIsMove, bodyD, bIsMove, startR, seqS, drpS, calD, consA, nilA, lkp, g]
  · refine bodyX_at' rfl ?_
    show xIsMove.1 [some m, some s, some t] = _
    simp [xIsMove, orX, calD, consA, nilA, lkp, x]
theorem moved_c (g : gChkSet [m, s] = none) (x : tChkSet [m, s] = some c) : gMoved [m, s, t] = none ∧ tMoved [m, s, t] = some c := by
  constructor
  · simp [gMoved, bodyD, bMoved, startR, seqS, drpS, calD, consA, nilA, lkp, g]
  · refine bodyX_at' rfl ?_
    show xMoved.1 [some m, some s, some t] = _
    simp [xMoved, orX, calD, consA, nilA, lkp, x]
theorem run_c (g : gChkSet [m, s] = none) (x : tChkSet [m, s] = some c) : gRun [m, s, t] = none ∧ tRun [m, s, t] = some c := by
  constructor
  · simp [gRun, bodyD, bRun, startR, seqS, drpS, calD, consA, nilA, lkp, g]
  · refine bodyX_at' rfl ?_
    show xRun.1 [some m, some s, some t, none, none] = _
    simp [xRun, orX, calD, consA, nilA, lkp, x]
theorem all_c (g : gChkSet [m, s] = none) (x : tChkSet [m, s] = some c) : gAllMoves [m, s] = none ∧ tAllMoves [m, s] = some c := by
  constructor
  · simp [gAllMoves, bodyD, bAllMoves, startR, seqS, drpS, calD, consA, nilA, lkp, g]
  · refine bodyX_at' rfl ?_
    show xAllMoves.1 [some m, some s, none, none, none, none] = _
    simp [xAllMoves, orX, calD, consA, nilA, lkp, x]
theorem moved_no (g : gChkSet [m, s] = some .none) (x : tChkSet [m, s] = none) (k : gCanMove [m, s, t] = some (.bool false)) : gMoved [m, s, t] = none ∧ tMoved [m, s, t] = some ("NoMove" : Str) := by
  constructor
  · simp [gMoved, bodyD, bMoved, startR, seqS, ifS, notB, tst, asB, nevS, drpS, calD, consA, nilA, lkp, g, k]
  · refine bodyX_at' rfl ?_
    show xMoved.1 [some m, some s, some t] = _
    simp [xMoved, orX, nxX, ifX, notB, tst, asB, drpS, calD, consA, nilA, lkp, g, x, k]
theorem moved_ok {d : PyData} (g : gChkSet [m, s] = some .none) (k : gCanMove [m, s, t] = some (.bool true)) (bm : gBehindMove [s, t] = some d) : gMoved [m, s, t] = some d := by
  refine body_rt rfl ?_
  show bMoved.1 [some m, some s, some t] = _
  simp only [bMoved, seqS, ifS, ifD, ifX, andB, orB, notB, tst, op2, chn, calD, tupD, lstD, consA, nilA, lkp, cst, retD, drpS, asgS, asgN, nxtS, nxX, orX, nevX, nevS, asB, List.getElem?_cons_zero, List.getElem?_cons_succ, Option.join_some, Option.bind_some, Option.bind_none, Option.map_some, Option.map_none, List.set_cons_succ, List.set_cons_zero, Bool.not_true, Bool.not_false, Bool.false_eq_true, if_true, if_false, g, k, bm]
theorem isMove_ok {d : PyData} (g : gChkSet [m, s] = some .none) (k : gCanMove [m, s, t] = some d) : gIsMove [m, s, t] = some d := by
  refine body_rt rfl ?_
  show bIsMove.1 [some m, some s, some t] = _
  simp only [bIsMove, seqS, ifS, ifD, ifX, andB, orB, notB, tst, op2, chn, calD, tupD, lstD, consA, nilA, lkp, cst, retD, drpS, asgS, asgN, nxtS, nxX, orX, nevX, nevS, asB, List.getElem?_cons_zero, List.getElem?_cons_succ, Option.join_some, Option.bind_some, Option.bind_none, Option.map_some, Option.map_none, List.set_cons_succ, List.set_cons_zero, Bool.not_true, Bool.not_false, Bool.false_eq_true, if_true, if_false, g, k]
end
noncomputable def oD : Option (List (Int × Int)) → PyData
  | some qs => sett qs
  | none => .none
structure Th (u e l b : Int) (ps : List (Int × Int)) (d : PyData) (o : Option (List (Int × Int))) : Prop where
  lb : gLBehind [four u e l b, sett ps, d] = some (oD o)
  cm : gCanMove [four u e l b, sett ps, d] = some (.bool o.isSome)
  bm : ∀ qs, o = some qs → gBehindMove [sett ps, d] = some (sett qs) ∧ okS u l qs = true
noncomputable def deck (k : Bool) : PyData := .str (if k = true then "lower" else "upper")
noncomputable def mv (r : Int) (k : Bool) (c : Int) : PyData := .tuple [.int r, deck k, .int c]
noncomputable def shP (p : Int × Int) (k : Bool) (c : Int) : Int × Int := if k = true then (p.1, p.2 + c) else (p.1 + c, p.2)
theorem ixt0 {x y z : PyData} : dIx (.tuple [x, y, z]) (.int 0) = some x := rfl
theorem ixt1 {x y z : PyData} : dIx (.tuple [x, y, z]) (.int 1) = some y := rfl
theorem ixt2 {x y z : PyData} : dIx (.tuple [x, y, z]) (.int 2) = some z := rfl
theorem lnt {x y z : PyData} : dLen [.tuple [x, y, z]] = some (.int 3) := rfl
theorem itt {xs : List PyData} : isiO "tuple" (.tuple xs) = some (.bool true) := rfl
theorem ne33 : dNe (.int 3) (.int 3) = some (.bool false) := by kernel_rfl
theorem ng1 : dNeg (.int 1) = some (.int (-1)) := rfl
theorem len_sett (ps : List (Int × Int)) : dLen [sett ps] = some (.int (ps.length : Int)) := by
  show some (PyData.int ((ps.map pr).length : Nat)) = _
  rw [List.length_map]
theorem dk_in (k : Bool) : dIn true (deck k) (.tuple [.str "upper", .str "lower"]) = some (.bool false) := by cases k <;> kernel_rfl
theorem c_facts {c : Int} (hc : c = 1 ∨ c = -1) : gIsWhole [.int c, .int (-1), .int 1] = some (.bool true) ∧ dNe (.int c) (.int 0) = some (.bool true) ∧ dIn true (.int c) (.tuple [.int 1, .int (-1)]) = some (.bool false) ∧ isiO "bool" (.int c) = some (.bool false) := by
  rcases hc with rfl | rfl <;> exact ⟨by kernel_rfl, by kernel_rfl, by kernel_rfl, rfl⟩
section
variable {u e l b : Int} {ps : List (Int × Int)}
theorem th_shape {d : PyData} (h : isiO "tuple" d = some (.bool false) ∨ isiO "tuple" d = some (.bool true) ∧ ∃ n, dLen [d] = some (.int n) ∧ dNe (.int n) (.int 3) = some (.bool true)) : Th u e l b ps d none := by
  have k1 : gNamesBeads [sett ps, d] = some (.bool false) := by
    refine body_rt rfl ?_
    show bNamesBeads.1 [some (sett ps), some d] = _
    rcases h with h | ⟨h, n, ln, ne⟩
    · simp only [bNamesBeads, seqS, ifS, ifD, ifX, andB, orB, notB, tst, op2, chn, calD, tupD, lstD, consA, nilA, lkp, cst, retD, drpS, asgS, asgN, nxtS, nxX, orX, nevX, nevS, asB, List.getElem?_cons_zero, List.getElem?_cons_succ, Option.join_some, Option.bind_some, Option.bind_none, Option.map_some, Option.map_none, List.set_cons_succ, List.set_cons_zero, Bool.not_true, Bool.not_false, Bool.false_eq_true, if_true, if_false, h]
    · simp only [bNamesBeads, seqS, ifS, ifD, ifX, andB, orB, notB, tst, op2, chn, calD, tupD, lstD, consA, nilA, lkp, cst, retD, drpS, asgS, asgN, nxtS, nxX, orX, nevX, nevS, asB, List.getElem?_cons_zero, List.getElem?_cons_succ, Option.join_some, Option.bind_some, Option.bind_none, Option.map_some, Option.map_none, List.set_cons_succ, List.set_cons_zero, Bool.not_true, Bool.not_false, Bool.false_eq_true, if_true, if_false, h, ln, ne]
  refine ⟨?_, ?_, fun qs z => by cases z⟩
  · refine body_rt rfl ?_
    show bLBehind.1 [some (four u e l b), some (sett ps), some d, none, none, none, none, none] = _
    rcases h with h | ⟨h, n, ln, ne⟩
    · simp only [bLBehind, seqS, ifS, ifD, ifX, andB, orB, notB, tst, op2, chn, calD, tupD, lstD, consA, nilA, lkp, cst, retD, drpS, asgS, asgN, nxtS, nxX, orX, nevX, nevS, asB, List.getElem?_cons_zero, List.getElem?_cons_succ, Option.join_some, Option.bind_some, Option.bind_none, Option.map_some, Option.map_none, List.set_cons_succ, List.set_cons_zero, Bool.not_true, Bool.not_false, Bool.false_eq_true, if_true, if_false, h, oD]
    · simp only [bLBehind, seqS, ifS, ifD, ifX, andB, orB, notB, tst, op2, chn, calD, tupD, lstD, consA, nilA, lkp, cst, retD, drpS, asgS, asgN, nxtS, nxX, orX, nevX, nevS, asB, List.getElem?_cons_zero, List.getElem?_cons_succ, Option.join_some, Option.bind_some, Option.bind_none, Option.map_some, Option.map_none, List.set_cons_succ, List.set_cons_zero, Bool.not_true, Bool.not_false, Bool.false_eq_true, if_true, if_false, h, ln, ne, oD]
  · refine body_rt rfl ?_
    show bCanMove.1 [some (four u e l b), some (sett ps), some d] = _
    simp only [bCanMove, seqS, ifS, ifD, ifX, andB, orB, notB, tst, op2, chn, calD, tupD, lstD, consA, nilA, lkp, cst, retD, drpS, asgS, asgN, nxtS, nxX, orX, nevX, nevS, asB, List.getElem?_cons_zero, List.getElem?_cons_succ, Option.join_some, Option.bind_some, Option.bind_none, Option.map_some, Option.map_none, List.set_cons_succ, List.set_cons_zero, Bool.not_true, Bool.not_false, Bool.false_eq_true, if_true, if_false, k1, Option.isSome_none]
theorem nb_facts (x y z : PyData) {X Y Z N : Bool} (ln : dLen [sett ps] = some (.int (ps.length : Int))) (wx : gIsWhole [x, .int 0, .int ((ps.length : Int) - 1)] = some (.bool X)) (iy : X = true → dIn true y (.tuple [.str "upper", .str "lower"]) = some (.bool !Y)) (wz : X = true → Y = true → gIsWhole [z, .int (-1), .int 1] = some (.bool Z)) (nz : X = true → Y = true → Z = true → dNe z (.int 0) = some (.bool N)) : gNamesBeads [sett ps, .tuple [x, y, z]] = some (.bool (X && Y && Z && N)) := by
  have sb : dSub (.int (ps.length : Int)) (.int 1) = some (.int ((ps.length : Int) - 1)) := rfl
  have e0 := ixt0 (x := x) (y := y) (z := z)
  have e1 := ixt1 (x := x) (y := y) (z := z)
  have e2 := ixt2 (x := x) (y := y) (z := z)
  have e3 := lnt (x := x) (y := y) (z := z)
  have e4 := itt (xs := [x, y, z])
  generalize PyData.tuple [x, y, z] = D at *
  generalize (ps.length : Int) = n at *
  refine body_rt rfl ?_
  show bNamesBeads.1 [some (sett ps), some D] = _
  cases X with
  | false => simp only [bNamesBeads, seqS, ifS, ifD, ifX, andB, orB, notB, tst, op2, chn, calD, tupD, lstD, consA, nilA, lkp, cst, retD, drpS, asgS, asgN, nxtS, nxX, orX, nevX, nevS, asB, List.getElem?_cons_zero, List.getElem?_cons_succ, Option.join_some, Option.bind_some, Option.bind_none, Option.map_some, Option.map_none, List.set_cons_succ, List.set_cons_zero, Bool.not_true, Bool.not_false, Bool.false_eq_true, if_true, if_false, e0, e3, e4, ne33, ln, sb, wx, Bool.false_and]
  | true =>
    have iy := iy rfl
    cases Y with
    | false => simp only [bNamesBeads, seqS, ifS, ifD, ifX, andB, orB, notB, tst, op2, chn, calD, tupD, lstD, consA, nilA, lkp, cst, retD, drpS, asgS, asgN, nxtS, nxX, orX, nevX, nevS, asB, List.getElem?_cons_zero, List.getElem?_cons_succ, Option.join_some, Option.bind_some, Option.bind_none, Option.map_some, Option.map_none, List.set_cons_succ, List.set_cons_zero, Bool.not_true, Bool.not_false, Bool.false_eq_true, if_true, if_false, e0, e1, e3, e4, ne33, ln, sb, wx, iy, Bool.false_and, Bool.true_and]
    | true =>
      have wz := wz rfl rfl
      cases Z with
      | false => simp only [bNamesBeads, andV, seqS, ifS, ifD, ifX, andB, orB, notB, tst, op2, chn, calD, tupD, lstD, consA, nilA, lkp, cst, retD, drpS, asgS, asgN, nxtS, nxX, orX, nevX, nevS, asB, List.getElem?_cons_zero, List.getElem?_cons_succ, Option.join_some, Option.bind_some, Option.bind_none, Option.map_some, Option.map_none, List.set_cons_succ, List.set_cons_zero, Bool.not_true, Bool.not_false, Bool.false_eq_true, if_true, if_false, e0, e1, e2, e3, e4, ne33, ln, sb, wx, iy, wz, ng1, Bool.false_and, Bool.true_and]
      | true =>
        have nz := nz rfl rfl rfl
        simp only [bNamesBeads, andV, seqS, ifS, ifD, ifX, andB, orB, notB, tst, op2, chn, calD, tupD, lstD, consA, nilA, lkp, cst, retD, drpS, asgS, asgN, nxtS, nxX, orX, nevX, nevS, asB, List.getElem?_cons_zero, List.getElem?_cons_succ, Option.join_some, Option.bind_some, Option.bind_none, Option.map_some, Option.map_none, List.set_cons_succ, List.set_cons_zero, Bool.not_true, Bool.not_false, Bool.false_eq_true, if_true, if_false, e0, e1, e2, e3, e4, ne33, ln, sb, wx, iy, wz, nz, ng1, Bool.false_and, Bool.true_and]
theorem th_x {x y z : PyData} (wx : gIsWhole [x, .int 0, .int ((ps.length : Int) - 1)] = some (.bool false)) (lx : (∃ i, x = .int i ∧ ¬ (0 ≤ i ∧ i < ps.length)) ∨ x = .bool true) : Th u e l b ps (.tuple [x, y, z]) none := by
  have k1 := nb_facts (Y := false) (Z := false) (N := false) x y z (len_sett ps) wx (fun z => by cases z) (fun z => by cases z) (fun z => by cases z)
  refine ⟨?_, ?_, fun qs z => by cases z⟩
  · have ln := len_sett ps
    have e3 := lnt (x := x) (y := y) (z := z)
    have e4 := itt (xs := [x, y, z])
    have ga : ∀ ρ : Rho, (asgT 3 (asgCons (asgN 3) (asgCons (asgN 4) (asgCons (asgN 5) asgNil)))) (.tuple [x, y, z]) ρ = some (((ρ.set 3 (some x)).set 4 (some y)).set 5 (some z)) := fun ρ => rfl
    generalize PyData.tuple [x, y, z] = D at *
    generalize (ps.length : Int) = n at *
    refine body_rt rfl ?_
    show bLBehind.1 [some (four u e l b), some (sett ps), some D, none, none, none, none, none] = _
    rcases lx with ⟨i, rfl, hi⟩ | rfl
    · have t1 : isiO "int" (.int i) = some (.bool true) := rfl
      have t2 : isiO "bool" (.int i) = some (.bool false) := rfl
      have c1 : dCmp (fun i j => decide (i ≤ j)) (.int 0) (.int i) = some (.bool (decide (0 ≤ i))) := rfl
      have c2 : dCmp (fun i j => decide (i < j)) (.int i) (.int n) = some (.bool (decide (i < n))) := rfl
      by_cases q : 0 ≤ i
      · rw [decide_eq_true q] at c1
        rw [decide_eq_false (show ¬ i < n from fun w => hi ⟨q, w⟩)] at c2
        simp only [bLBehind, seqS, ifS, ifD, ifX, andB, orB, notB, tst, op2, chn, calD, tupD, lstD, consA, nilA, lkp, cst, retD, drpS, asgS, asgN, nxtS, nxX, orX, nevX, nevS, asB, List.getElem?_cons_zero, List.getElem?_cons_succ, Option.join_some, Option.bind_some, Option.bind_none, Option.map_some, Option.map_none, List.set_cons_succ, List.set_cons_zero, Bool.not_true, Bool.not_false, Bool.false_eq_true, if_true, if_false, e3, e4, ne33, ga, ln, t1, t2, c1, c2, oD]
      · rw [decide_eq_false q] at c1
        simp only [bLBehind, seqS, ifS, ifD, ifX, andB, orB, notB, tst, op2, chn, calD, tupD, lstD, consA, nilA, lkp, cst, retD, drpS, asgS, asgN, nxtS, nxX, orX, nevX, nevS, asB, List.getElem?_cons_zero, List.getElem?_cons_succ, Option.join_some, Option.bind_some, Option.bind_none, Option.map_some, Option.map_none, List.set_cons_succ, List.set_cons_zero, Bool.not_true, Bool.not_false, Bool.false_eq_true, if_true, if_false, e3, e4, ne33, ga, ln, t1, t2, c1, oD]
    · have t1 : isiO "int" (.bool true) = some (.bool true) := rfl
      have t2 : isiO "bool" (.bool true) = some (.bool true) := rfl
      simp only [bLBehind, seqS, ifS, ifD, ifX, andB, orB, notB, tst, op2, chn, calD, tupD, lstD, consA, nilA, lkp, cst, retD, drpS, asgS, asgN, nxtS, nxX, orX, nevX, nevS, asB, List.getElem?_cons_zero, List.getElem?_cons_succ, Option.join_some, Option.bind_some, Option.bind_none, Option.map_some, Option.map_none, List.set_cons_succ, List.set_cons_zero, Bool.not_true, Bool.not_false, Bool.false_eq_true, if_true, if_false, e3, e4, ne33, ga, ln, t1, t2, oD]
  · refine body_rt rfl ?_
    show bCanMove.1 [some (four u e l b), some (sett ps), some (.tuple [x, y, z])] = _
    generalize PyData.tuple [x, y, z] = D at *
    simp only [bCanMove, seqS, ifS, ifD, ifX, andB, orB, notB, tst, op2, chn, calD, tupD, lstD, consA, nilA, lkp, cst, retD, drpS, asgS, asgN, nxtS, nxX, orX, nevX, nevS, asB, List.getElem?_cons_zero, List.getElem?_cons_succ, Option.join_some, Option.bind_some, Option.bind_none, Option.map_some, Option.map_none, List.set_cons_succ, List.set_cons_zero, Bool.not_true, Bool.not_false, Bool.false_eq_true, if_true, if_false, k1, Option.isSome_none, Bool.false_and]
theorem wh_r {r : Nat} (hr : r < ps.length) : gIsWhole [.int (r : Int), .int 0, .int ((ps.length : Int) - 1)] = some (.bool true) := by
  rw [gIsWhole_int, decide_eq_true (by omega), decide_eq_true (by omega)]; rfl
theorem th_yz {r : Nat} (hr : r < ps.length) {y z : PyData} {Y Z N : Bool} (iy : dIn true y (.tuple [.str "upper", .str "lower"]) = some (.bool !Y)) (wz : gIsWhole [z, .int (-1), .int 1] = some (.bool Z)) (nz : dNe z (.int 0) = some (.bool N)) {B M : Bool} (bz : isiO "bool" z = some (.bool B)) (iz : B = false → dIn true z (.tuple [.int 1, .int (-1)]) = some (.bool M)) (h1 : (Y && Z && N) = false) (h2 : (Y && !B && !M) = false) : Th u e l b ps (.tuple [.int (r : Int), y, z]) none := by
  have k1 := nb_facts (.int (r : Int)) y z (len_sett ps) (wh_r hr) (fun _ => iy) (fun _ _ => wz) (fun _ _ _ => nz)
  rw [show (true && Y && Z && N) = (Y && Z && N) by simp, h1] at k1
  refine ⟨?_, ?_, fun qs z => by cases z⟩
  · have ln := len_sett ps
    have e3 := lnt (x := .int (r : Int)) (y := y) (z := z)
    have e4 := itt (xs := [.int (r : Int), y, z])
    have ga : ∀ ρ : Rho, (asgT 3 (asgCons (asgN 3) (asgCons (asgN 4) (asgCons (asgN 5) asgNil)))) (.tuple [.int (r : Int), y, z]) ρ = some (((ρ.set 3 (some (.int (r : Int)))).set 4 (some y)).set 5 (some z)) := fun ρ => rfl
    have t1 : isiO "int" (.int (r : Int)) = some (.bool true) := rfl
    have t2 : isiO "bool" (.int (r : Int)) = some (.bool false) := rfl
    have c1 : dCmp (fun i j => decide (i ≤ j)) (.int 0) (.int (r : Int)) = some (.bool true) := by
      show some (PyData.bool (decide ((0 : Int) ≤ (r : Int)))) = _
      rw [decide_eq_true (by omega)]
    have c2 : dCmp (fun i j => decide (i < j)) (.int (r : Int)) (.int (ps.length : Int)) = some (.bool true) := by
      show some (PyData.bool (decide ((r : Int) < (ps.length : Int)))) = _
      rw [decide_eq_true (by omega)]
    generalize PyData.tuple [.int (r : Int), y, z] = D at *
    generalize (ps.length : Int) = n at *
    generalize (r : Int) = rr at *
    refine body_rt rfl ?_
    show bLBehind.1 [some (four u e l b), some (sett ps), some D, none, none, none, none, none] = _
    cases Y with
    | false => simp only [bLBehind, seqS, ifS, ifD, ifX, andB, orB, notB, tst, op2, chn, calD, tupD, lstD, consA, nilA, lkp, cst, retD, drpS, asgS, asgN, nxtS, nxX, orX, nevX, nevS, asB, List.getElem?_cons_zero, List.getElem?_cons_succ, Option.join_some, Option.bind_some, Option.bind_none, Option.map_some, Option.map_none, List.set_cons_succ, List.set_cons_zero, Bool.not_true, Bool.not_false, Bool.false_eq_true, if_true, if_false, e3, e4, ne33, ga, ln, t1, t2, c1, c2, iy, oD]
    | true =>
      cases B with
      | true => simp only [bLBehind, seqS, ifS, ifD, ifX, andB, orB, notB, tst, op2, chn, calD, tupD, lstD, consA, nilA, lkp, cst, retD, drpS, asgS, asgN, nxtS, nxX, orX, nevX, nevS, asB, List.getElem?_cons_zero, List.getElem?_cons_succ, Option.join_some, Option.bind_some, Option.bind_none, Option.map_some, Option.map_none, List.set_cons_succ, List.set_cons_zero, Bool.not_true, Bool.not_false, Bool.false_eq_true, if_true, if_false, e3, e4, ne33, ga, ln, t1, t2, c1, c2, iy, bz, oD]
      | false =>
        have iz := iz rfl
        cases M with
        | false => cases h2
        | true => simp only [bLBehind, seqS, ifS, ifD, ifX, andB, orB, notB, tst, op2, chn, calD, tupD, lstD, consA, nilA, lkp, cst, retD, drpS, asgS, asgN, nxtS, nxX, orX, nevX, nevS, asB, List.getElem?_cons_zero, List.getElem?_cons_succ, Option.join_some, Option.bind_some, Option.bind_none, Option.map_some, Option.map_none, List.set_cons_succ, List.set_cons_zero, Bool.not_true, Bool.not_false, Bool.false_eq_true, if_true, if_false, e3, e4, ne33, ga, ln, t1, t2, c1, c2, iy, bz, ng1, fw2, iz, oD]
  · refine body_rt rfl ?_
    show bCanMove.1 [some (four u e l b), some (sett ps), some (.tuple [.int (r : Int), y, z])] = _
    generalize PyData.tuple [.int (r : Int), y, z] = D at *
    simp only [bCanMove, seqS, ifS, ifD, ifX, andB, orB, notB, tst, op2, chn, calD, tupD, lstD, consA, nilA, lkp, cst, retD, drpS, asgS, asgN, nxtS, nxX, orX, nevX, nevS, asB, List.getElem?_cons_zero, List.getElem?_cons_succ, Option.join_some, Option.bind_some, Option.bind_none, Option.map_some, Option.map_none, List.set_cons_succ, List.set_cons_zero, Bool.not_true, Bool.not_false, Bool.false_eq_true, if_true, if_false, k1, Option.isSome_none]
end
end Rods

end
section
set_option Elab.async false
set_option linter.all false
set_option maxRecDepth 100000
set_option maxHeartbeats 4000000
namespace Rods
open PySem L2 BX
open PyProof.Rows hiding St

theorem fin_rt {F : Rho → Option Out} {ρ : Rho} {d : PyData} (h : F ρ = some (.rt d)) : finS F ρ = some (.rt d) := by
  unfold finS
  rw [h]
theorem lb_core {M T D K R Q A1 A2 A3 A4 : PyData} {fl fl' : List PyData} {n rr c s z u l hi : Int} {k B1 B2 : Bool}
    (e3 : dLen [D] = some (.int 3)) (e4 : isiO "tuple" D = some (.bool true)) (ga : ∀ ρ : Rho, (asgT 3 (asgCons (asgN 3) (asgCons (asgN 4) (asgCons (asgN 5) asgNil)))) D ρ = some (((ρ.set 3 (some (.int rr))).set 4 (some K)).set 5 (some (.int c))))
    (ln : dLen [T] = some (.int n)) (c1 : dCmp (fun i j => decide (i ≤ j)) (.int 0) (.int rr) = some (.bool true)) (c2 : dCmp (fun i j => decide (i < j)) (.int rr) (.int n) = some (.bool true))
    (ik : dIn true K (.tuple [.str "upper", .str "lower"]) = some (.bool false)) (ic : dIn true (.int c) (.tuple [.int 1, .int (-1)]) = some (.bool false))
    (ek : dEq K (.str "lower") = some (.bool k)) (sd : dIntOf [.bool k] = some (.int s)) (ixT : dIx T (.int rr) = some R) (lo : dListOf [R] = some (.list fl)) (ixf : dIx (.list fl) (.int s) = some (.int z)) (st : setD (some (.list fl)) (some (.int (z + c))) (some (.int s)) = some (.list fl')) (ixg : dIx (.list fl') (.int s) = some (.int (z + c)))
    (m0 : dIx M (.int 0) = some (.int u)) (m2 : dIx M (.int 2) = some (.int l)) (ixh : dIx (.tuple [.int u, .int l]) (.int s) = some (.int hi)) (d1 : dCmp (fun i j => decide (i ≤ j)) (.int 0) (.int (z + c)) = some (.bool B1)) (d2 : dCmp (fun i j => decide (i ≤ j)) (.int (z + c)) (.int hi) = some (.bool B2))
    (tp : dTupOf [.list fl'] = some Q) (sl2 : dSlA T none (some rr) = some A1) (ad1 : dAdd A1 (.tuple [Q]) = some A2) (sl3 : dSlA T (some (rr + 1)) none = some A3) (ad2 : dAdd A2 A3 = some A4) :
    gLBehind [M, T, D] = some (if (B1 && B2) = true then A4 else .none) := by
  have t1 : isiO "int" (.int rr) = some (.bool true) := rfl
  have t2 : isiO "bool" (.int rr) = some (.bool false) := rfl
  have t3 : isiO "bool" (.int c) = some (.bool false) := rfl
  have az : dAdd (.int z) (.int c) = some (.int (z + c)) := rfl
  have a1 : dAdd (.int rr) (.int 1) = some (.int (rr + 1)) := rfl
  have nl : noL (.int (z + c)) = true := rfl
  refine body_rt rfl ?_
  show bLBehind.1 [some M, some T, some D, none, none, none, none, none] = _
  simp only [bLBehind]
  refine (seq_nx (ρ1 := [some M, some T, some D, none, none, none, none, none]) ?_).trans ?_
  · simp only [seqS, ifS, ifD, ifX, andB, orB, notB, tst, op2, chn, calD, tupD, lstD, consA, nilA, lkp, cst, retD, drpS, asgS, asgN, nxtS, nxX, orX, nevX, nevS, asB, List.getElem?_cons_zero, List.getElem?_cons_succ, Option.join_some, Option.bind_some, Option.bind_none, Option.map_some, Option.map_none, List.set_cons_succ, List.set_cons_zero, Bool.not_true, Bool.not_false, Bool.false_eq_true, if_true, if_false, e3, e4, ne33]
  refine (seq_nx (ρ1 := [some M, some T, some D, some (.int rr), some K, some (.int c), none, none]) ?_).trans ?_
  · simp only [seqS, ifS, ifD, ifX, andB, orB, notB, tst, op2, chn, calD, tupD, lstD, consA, nilA, lkp, cst, retD, drpS, asgS, asgN, nxtS, nxX, orX, nevX, nevS, asB, List.getElem?_cons_zero, List.getElem?_cons_succ, Option.join_some, Option.bind_some, Option.bind_none, Option.map_some, Option.map_none, List.set_cons_succ, List.set_cons_zero, Bool.not_true, Bool.not_false, Bool.false_eq_true, if_true, if_false, ga]
  refine (seq_nx (ρ1 := [some M, some T, some D, some (.int rr), some K, some (.int c), none, none]) ?_).trans ?_
  · simp only [seqS, ifS, ifD, ifX, andB, orB, notB, tst, op2, chn, calD, tupD, lstD, consA, nilA, lkp, cst, retD, drpS, asgS, asgN, nxtS, nxX, orX, nevX, nevS, asB, List.getElem?_cons_zero, List.getElem?_cons_succ, Option.join_some, Option.bind_some, Option.bind_none, Option.map_some, Option.map_none, List.set_cons_succ, List.set_cons_zero, Bool.not_true, Bool.not_false, Bool.false_eq_true, if_true, if_false, ln, t1, t2, c1, c2]
  refine (seq_nx (ρ1 := [some M, some T, some D, some (.int rr), some K, some (.int c), none, none]) ?_).trans ?_
  · simp only [seqS, ifS, ifD, ifX, andB, orB, notB, tst, op2, chn, calD, tupD, lstD, consA, nilA, lkp, cst, retD, drpS, asgS, asgN, nxtS, nxX, orX, nevX, nevS, asB, List.getElem?_cons_zero, List.getElem?_cons_succ, Option.join_some, Option.bind_some, Option.bind_none, Option.map_some, Option.map_none, List.set_cons_succ, List.set_cons_zero, Bool.not_true, Bool.not_false, Bool.false_eq_true, if_true, if_false, ik, t3, ng1, fw2, ic]
  refine (seq_nx (ρ1 := [some M, some T, some D, some (.int rr), some K, some (.int c), some (.int s), none]) ?_).trans ?_
  · simp only [seqS, ifS, ifD, ifX, andB, orB, notB, tst, op2, chn, calD, tupD, lstD, consA, nilA, lkp, cst, retD, drpS, asgS, asgN, nxtS, nxX, orX, nevX, nevS, asB, List.getElem?_cons_zero, List.getElem?_cons_succ, Option.join_some, Option.bind_some, Option.bind_none, Option.map_some, Option.map_none, List.set_cons_succ, List.set_cons_zero, Bool.not_true, Bool.not_false, Bool.false_eq_true, if_true, if_false, ek, sd]
  have key : ∀ {Y : Rho → Option Out} {d : PyData}, Y [some M, some T, some D, some (.int rr), some K, some (.int c), some (.int s), some (.list fl)] = some (.rt d) → newS 7 (calD dListOf (consA (op2 dIx (lkp 1) (lkp 3)) nilA)) Y [some M, some T, some D, some (.int rr), some K, some (.int c), some (.int s), none] = some (.rt d) := fun {Y d} hy => by
    have l8 : 7 < [some M, some T, some D, some (.int rr), some K, some (.int c), some (.int s), none].length := by simp
    simp only [newS, seqS, ifS, ifD, ifX, andB, orB, notB, tst, op2, chn, calD, tupD, lstD, consA, nilA, lkp, cst, retD, drpS, asgS, asgN, nxtS, nxX, orX, nevX, nevS, asB, List.getElem?_cons_zero, List.getElem?_cons_succ, Option.join_some, Option.bind_some, Option.bind_none, Option.map_some, Option.map_none, List.set_cons_succ, List.set_cons_zero, Bool.not_true, Bool.not_false, Bool.false_eq_true, if_true, if_false, ixT, lo, hy]
    rw [if_pos l8]
  refine key ?_
  refine (seq_nx (ρ1 := [some M, some T, some D, some (.int rr), some K, some (.int c), some (.int s), some (.list fl')]) ?_).trans ?_
  · simp only [setS, seqS, ifS, ifD, ifX, andB, orB, notB, tst, op2, chn, calD, tupD, lstD, consA, nilA, lkp, cst, retD, drpS, asgS, asgN, nxtS, nxX, orX, nevX, nevS, asB, List.getElem?_cons_zero, List.getElem?_cons_succ, Option.join_some, Option.bind_some, Option.bind_none, Option.map_some, Option.map_none, List.set_cons_succ, List.set_cons_zero, Bool.not_true, Bool.not_false, Bool.false_eq_true, if_true, if_false, brw, hid, okB, Option.join_none, ixf, az, nl, st]
  refine fin_rt ?_
  cases B1 with
  | false => simp only [seqS, ifS, ifD, ifX, andB, orB, notB, tst, op2, chn, calD, tupD, lstD, consA, nilA, lkp, cst, retD, drpS, asgS, asgN, nxtS, nxX, orX, nevX, nevS, asB, List.getElem?_cons_zero, List.getElem?_cons_succ, Option.join_some, Option.bind_some, Option.bind_none, Option.map_some, Option.map_none, List.set_cons_succ, List.set_cons_zero, Bool.not_true, Bool.not_false, Bool.false_eq_true, if_true, if_false, ixg, m0, m2, fw2, ixh, d1, d2, Bool.false_and]
  | true =>
    cases B2 with
    | false => simp only [seqS, ifS, ifD, ifX, andB, orB, notB, tst, op2, chn, calD, tupD, lstD, consA, nilA, lkp, cst, retD, drpS, asgS, asgN, nxtS, nxX, orX, nevX, nevS, asB, List.getElem?_cons_zero, List.getElem?_cons_succ, Option.join_some, Option.bind_some, Option.bind_none, Option.map_some, Option.map_none, List.set_cons_succ, List.set_cons_zero, Bool.not_true, Bool.not_false, Bool.false_eq_true, if_true, if_false, ixg, m0, m2, fw2, ixh, d1, d2, Bool.true_and]
    | true => simp only [seqS, ifS, ifD, ifX, andB, orB, notB, tst, op2, chn, calD, tupD, lstD, consA, nilA, lkp, cst, retD, drpS, asgS, asgN, nxtS, nxX, orX, nevX, nevS, asB, List.getElem?_cons_zero, List.getElem?_cons_succ, Option.join_some, Option.bind_some, Option.bind_none, Option.map_some, Option.map_none, List.set_cons_succ, List.set_cons_zero, Bool.not_true, Bool.not_false, Bool.false_eq_true, if_true, if_false, slaTo, slaFrom, inI, ixg, m0, m2, fw1, fw2, ixh, d1, d2, Bool.true_and, sl2, tp, ad1, a1, sl3, ad2]
theorem pushed_eq (p : Int × Int) (k : Bool) (c : Int) : gPushed [pr p, deck k, .int c] = some (pr (shP p k c)) := by
  have i0 : dIx (pr p) (.int 0) = some (.int p.1) := rfl
  have i1 : dIx (pr p) (.int 1) = some (.int p.2) := rfl
  have a1 : dAdd (.int p.1) (.int c) = some (.int (p.1 + c)) := rfl
  have a2 : dAdd (.int p.2) (.int c) = some (.int (p.2 + c)) := rfl
  refine body_rt rfl ?_
  show bPushed.1 [some (pr p), some (deck k), some (.int c)] = _
  cases k with
  | false =>
    have q : dEq (deck false) (.str "upper") = some (.bool true) := by kernel_rfl
    simp only [bPushed, seqS, ifS, ifD, ifX, andB, orB, notB, tst, op2, chn, calD, tupD, lstD, consA, nilA, lkp, cst, retD, drpS, asgS, asgN, nxtS, nxX, orX, nevX, nevS, asB, List.getElem?_cons_zero, List.getElem?_cons_succ, Option.join_some, Option.bind_some, Option.bind_none, Option.map_some, Option.map_none, List.set_cons_succ, List.set_cons_zero, Bool.not_true, Bool.not_false, Bool.false_eq_true, if_true, if_false, q, i0, i1, a1, fw2]
    rfl
  | true =>
    have q : dEq (deck true) (.str "upper") = some (.bool false) := by kernel_rfl
    simp only [bPushed, seqS, ifS, ifD, ifX, andB, orB, notB, tst, op2, chn, calD, tupD, lstD, consA, nilA, lkp, cst, retD, drpS, asgS, asgN, nxtS, nxX, orX, nevX, nevS, asB, List.getElem?_cons_zero, List.getElem?_cons_succ, Option.join_some, Option.bind_some, Option.bind_none, Option.map_some, Option.map_none, List.set_cons_succ, List.set_cons_zero, Bool.not_true, Bool.not_false, Bool.false_eq_true, if_true, if_false, q, i0, i1, a2, fw2]
    rfl
theorem set_split {α : Type} : ∀ (ps : List α) (r : Nat) (q : α), r < ps.length → ps.set r q = ps.take r ++ [q] ++ ps.drop (r + 1)
  | [], r, q, h => by simp at h
  | p :: ps, 0, q, h => rfl
  | p :: ps, r + 1, q, h => by
    simp only [List.set_cons_succ, List.take_succ_cons, List.drop_succ_cons, List.cons_append]
    rw [set_split ps r q (by simpa using h)]
section
variable {u e l b : Int} {ps : List (Int × Int)}
theorem cuts {r : Nat} (hr : r < ps.length) (h4 : ps.length ≤ 4) (q : Int × Int) : ∃ A1 A2 A3, dSlA (sett ps) none (some (r : Int)) = some A1 ∧ dAdd A1 (.tuple [pr q]) = some A2 ∧ dSlA (sett ps) (some ((r : Int) + 1)) none = some A3 ∧ dAdd A2 A3 = some (sett (ps.set r q)) := by
  refine ⟨.tuple ((ps.map pr).take r), .tuple ((ps.map pr).take r ++ [pr q]), .tuple ((ps.map pr).drop (r + 1)), ?_, ?_, ?_, ?_⟩
  · show some (PyData.tuple (cutT _ none (some (r : Int)))) = _
    rw [cutTo]
  · exact add_tup (.inr trivial) (by rw [List.length_take, List.length_map]; simp; omega)
  · show some (PyData.tuple (cutT _ (some ((r : Int) + 1)) none)) = _
    rw [show (r : Int) + 1 = ((r + 1 : Nat) : Int) by omega, cutFrom]
  · rw [add_tup (.inr trivial) (by rw [List.length_append, List.length_take, List.length_drop, List.length_map]; simp only [List.length_cons, List.length_nil]; omega), set_split ps r q hr]
    show some (PyData.tuple _) = some (PyData.tuple (List.map pr _))
    rw [List.map_append, List.map_append, List.map_take, List.map_drop]; rfl
theorem okS_set (hs : okS u l ps = true) (r : Nat) {q : Int × Int} (hq : okP u l q = true) : okS u l (ps.set r q) = true := by
  obtain ⟨h1, h4, hp⟩ := okS_split hs
  refine okS_mk (by rw [List.length_set]; exact h1) (by rw [List.length_set]; exact h4) (List.all_eq_true.mpr fun x hx => ?_)
  rcases List.mem_or_eq_of_mem_set hx with z | rfl
  · exact List.all_eq_true.mp hp x z
  · exact hq
theorem th_mv (hs : okS u l ps = true) {r : Nat} {p : Int × Int} (hp : ps[r]? = some p) (k : Bool) {c : Int} (hc : c = 1 ∨ c = -1) : Th u e l b ps (mv (r : Int) k c) (if okP u l (shP p k c) = true then some (ps.set r (shP p k c)) else none) := by
  obtain ⟨h1, h4, hall⟩ := okS_split hs
  obtain ⟨hr, hpe⟩ := List.getElem?_eq_some_iff.mp hp
  have hpo : okP u l p = true := List.all_eq_true.mp hall p (by rw [← hpe]; exact List.getElem_mem _)
  have hpo' : 0 ≤ p.1 ∧ p.1 ≤ u ∧ 0 ≤ p.2 ∧ p.2 ≤ l := by simp only [okP, Bool.and_eq_true, decide_eq_true_eq] at hpo; omega
  obtain ⟨f1, f2, f3, f4⟩ := c_facts hc
  have ixT := ix_sett h4 hp
  have k1 := nb_facts (X := true) (Y := true) (Z := true) (N := true) (.int (r : Int)) (deck k) (.int c) (len_sett ps) (wh_r hr) (fun _ => dk_in k) (fun _ _ => f1) (fun _ _ _ => f2)
  obtain ⟨A1, A2, A3, s1, s2, s3, s4⟩ := cuts hr h4 (shP p k c)
  have gr := gIsRod_at (u := u) (e := e) (l := l) (b := b) (pr (shP p k c)) rfl
  rw [rodB_pr] at gr
  refine ⟨?_, ?_, fun qs z => ?_⟩
  · have hc1 : dCmp (fun i j => decide (i ≤ j)) (.int 0) (.int (r : Int)) = some (.bool true) := by
      show some (PyData.bool (decide ((0 : Int) ≤ (r : Int)))) = _
      rw [decide_eq_true (by omega)]
    have hc2 : dCmp (fun i j => decide (i < j)) (.int (r : Int)) (.int (ps.length : Int)) = some (.bool true) := by
      show some (PyData.bool (decide ((r : Int) < (ps.length : Int)))) = _
      rw [decide_eq_true (by omega)]
    have oe : (if okP u l (shP p k c) = true then some (ps.set r (shP p k c)) else none) = if okP u l (shP p k c) = true then some (ps.set r (shP p k c)) else none := rfl
    cases k with
    | false =>
      have q := lb_core (M := four u e l b) (T := sett ps) (D := mv (r : Int) false c) (K := deck false) (fl := [.int p.1, .int p.2]) (fl' := [.int (p.1 + c), .int p.2]) (z := p.1) (s := 0) (hi := u) (B1 := decide (0 ≤ p.1 + c)) (B2 := decide (p.1 + c ≤ u)) rfl rfl (fun ρ => rfl) (len_sett ps) hc1 hc2 (dk_in false) f3 (k := false) (by kernel_rfl) rfl ixT rfl rfl rfl rfl (ix0 _ _ _ _) (ix2 _ _ _ _) rfl rfl rfl (Q := pr (p.1 + c, p.2)) rfl s1 s2 s3 s4
      rw [q]
      have ob : okP u l (shP p false c) = (decide (0 ≤ p.1 + c) && decide (p.1 + c ≤ u)) := by
        show (decide (0 ≤ p.1 + c) && decide (p.1 + c ≤ u) && decide (0 ≤ p.2) && decide (p.2 ≤ l)) = _
        rw [decide_eq_true hpo'.2.2.1, decide_eq_true hpo'.2.2.2, Bool.and_true, Bool.and_true]
      rw [ob]
      split <;> rfl
    | true =>
      have q := lb_core (M := four u e l b) (T := sett ps) (D := mv (r : Int) true c) (K := deck true) (fl := [.int p.1, .int p.2]) (fl' := [.int p.1, .int (p.2 + c)]) (z := p.2) (s := 1) (hi := l) (B1 := decide (0 ≤ p.2 + c)) (B2 := decide (p.2 + c ≤ l)) rfl rfl (fun ρ => rfl) (len_sett ps) hc1 hc2 (dk_in true) f3 (k := true) (by kernel_rfl) rfl ixT rfl rfl rfl rfl (ix0 _ _ _ _) (ix2 _ _ _ _) rfl rfl rfl (Q := pr (p.1, p.2 + c)) rfl s1 s2 s3 s4
      rw [q]
      have ob : okP u l (shP p true c) = (decide (0 ≤ p.2 + c) && decide (p.2 + c ≤ l)) := by
        show (decide (0 ≤ p.1) && decide (p.1 ≤ u) && decide (0 ≤ p.2 + c) && decide (p.2 + c ≤ l)) = _
        rw [decide_eq_true hpo'.1, decide_eq_true hpo'.2.1, Bool.true_and, Bool.true_and]
      rw [ob]
      split <;> rfl
  · have e0 : dIx (mv (r : Int) k c) (.int 0) = some (.int (r : Int)) := rfl
    have e1 : dIx (mv (r : Int) k c) (.int 1) = some (deck k) := rfl
    have e2 : dIx (mv (r : Int) k c) (.int 2) = some (.int c) := rfl
    have pu := pushed_eq p k c
    have k1' : gNamesBeads [sett ps, mv (r : Int) k c] = some (.bool true) := k1
    have io : (if okP u l (shP p k c) = true then some (ps.set r (shP p k c)) else none).isSome = okP u l (shP p k c) := by split <;> simp_all
    rw [io]
    generalize mv (r : Int) k c = D at *
    generalize okP u l (shP p k c) = OK at *
    generalize pr (shP p k c) = Q at *
    refine body_rt rfl ?_
    show bCanMove.1 [some (four u e l b), some (sett ps), some D] = _
    simp only [bCanMove, seqS, ifS, ifD, ifX, andB, orB, notB, tst, op2, chn, calD, tupD, lstD, consA, nilA, lkp, cst, retD, drpS, asgS, asgN, nxtS, nxX, orX, nevX, nevS, asB, List.getElem?_cons_zero, List.getElem?_cons_succ, Option.join_some, Option.bind_some, Option.bind_none, Option.map_some, Option.map_none, List.set_cons_succ, List.set_cons_zero, Bool.not_true, Bool.not_false, Bool.false_eq_true, if_true, if_false, k1', e0, e1, e2, ixT, pu, gr]
  · by_cases ho : okP u l (shP p k c) = true
    · rw [if_pos ho] at z
      cases z
      refine ⟨?_, okS_set hs r ho⟩
      have e0 : dIx (mv (r : Int) k c) (.int 0) = some (.int (r : Int)) := rfl
      have e1 : dIx (mv (r : Int) k c) (.int 1) = some (deck k) := rfl
      have e2 : dIx (mv (r : Int) k c) (.int 2) = some (.int c) := rfl
      have a1 : dAdd (.int (r : Int)) (.int 1) = some (.int ((r : Int) + 1)) := rfl
      have pu := pushed_eq p k c
      generalize mv (r : Int) k c = D at *
      generalize pr (shP p k c) = Q at *
      generalize sett (ps.set r (shP p k c)) = R at *
      refine body_rt rfl ?_
      show bBehindMove.1 [some (sett ps), some D, none] = _
      simp only [bBehindMove, seqS, ifS, ifD, ifX, andB, orB, notB, tst, op2, chn, calD, tupD, lstD, consA, nilA, lkp, cst, retD, drpS, asgS, asgN, nxtS, nxX, orX, nevX, nevS, asB, List.getElem?_cons_zero, List.getElem?_cons_succ, Option.join_some, Option.bind_some, Option.bind_none, Option.map_some, Option.map_none, List.set_cons_succ, List.set_cons_zero, Bool.not_true, Bool.not_false, Bool.false_eq_true, if_true, if_false, slaTo, slaFrom, inI, e0, e1, e2, a1, ixT, pu, s1, fw1, s2, s3, s4]
    · rw [if_neg ho] at z; cases z
end
end Rods

end
section
set_option Elab.async false
set_option linter.all false
set_option maxRecDepth 100000
set_option maxHeartbeats 4000000
namespace Rods
open PySem L2 BX
open PyProof.Rows hiding St

theorem add_list {xs ys : List PyData} (h : xs.length + ys.length < 9999) : dAdd (.list xs) (.list ys) = some (.list (xs ++ ys)) := by
  show (if few (xs ++ ys) = true then some (PyData.list (xs ++ ys)) else none) = _
  rw [if_pos (few_len (by rw [List.length_append]; omega))]
noncomputable def tM (M T d : PyData) : Bool := match gCanMove [M, T, d] with
  | some (.bool x) => x
  | _ => false
noncomputable def c4 (r : Nat) : List PyData := [mv (r : Int) false 1, mv (r : Int) false (-1), mv (r : Int) true 1, mv (r : Int) true (-1)]
noncomputable def movR (M T : PyData) (r : Nat) : List PyData := (c4 r).filter (tM M T)
noncomputable def movs (M T : PyData) (n : Nat) : List PyData := (List.range n).flatMap (movR M T)
theorem movs_succ (M T : PyData) (k : Nat) : movs M T (k + 1) = movs M T k ++ movR M T k := by
  unfold movs
  rw [List.range_succ, List.flatMap_append]
  simp
theorem movR_len (M T : PyData) (r : Nat) : (movR M T r).length ≤ 4 := List.length_filter_le _ _
theorem movs_len (M T : PyData) : ∀ n : Nat, (movs M T n).length ≤ 4 * n
  | 0 => by simp [movs]
  | n + 1 => by
    rw [movs_succ, List.length_append]
    have := movR_len M T n
    have := movs_len M T n
    omega
theorem tM_at {u e l b : Int} {ps : List (Int × Int)} {d : PyData} {o : Option (List (Int × Int))} (t : Th u e l b ps d o) : tM (four u e l b) (sett ps) d = o.isSome := by
  unfold tM
  rw [t.cm]
theorem notN_oD (o : Option (List (Int × Int))) : dNotN (oD o) .none = some (.bool o.isSome) := by cases o <;> rfl
theorem noLs_all {ds : List PyData} (h : ∀ d ∈ ds, noL d = true) : noLs ds = true := by
  induction ds with
  | nil => rfl
  | cons d ds ih => simp only [noLs, h d List.mem_cons_self, ih fun c hc => h c (List.mem_cons_of_mem _ hc), Bool.and_self]
section
variable {u e l b : Int} {ps : List (Int × Int)}
theorem c4_th (hs : okS u l ps = true) {r : Nat} (hr : r < ps.length) : ∀ d ∈ c4 r, ∃ o, Th u e l b ps d o := fun d hd => by
  have hp : ps[r]? = some ps[r] := List.getElem?_eq_getElem hr
  simp only [c4, List.mem_cons, List.not_mem_nil, or_false] at hd
  rcases hd with rfl | rfl | rfl | rfl
  · exact ⟨_, th_mv hs hp false (.inl rfl)⟩
  · exact ⟨_, th_mv hs hp false (.inr rfl)⟩
  · exact ⟨_, th_mv hs hp true (.inl rfl)⟩
  · exact ⟨_, th_mv hs hp true (.inr rfl)⟩
theorem mem_movs (hs : okS u l ps = true) {n : Nat} (hn : n ≤ ps.length) {d : PyData} (hd : d ∈ movs (four u e l b) (sett ps) n) : (∃ qs, Th u e l b ps d (some qs)) ∧ noL d = true ∧ shl 2 d := by
  obtain ⟨r, hr, hm⟩ := List.mem_flatMap.mp hd
  obtain ⟨h1, h2⟩ := List.mem_filter.mp hm
  obtain ⟨o, t⟩ := c4_th (e := e) (b := b) hs (show r < ps.length by have := List.mem_range.mp hr; omega) d h1
  rw [tM_at t] at h2
  refine ⟨?_, ?_⟩
  · cases o with
    | none => cases h2
    | some qs => exact ⟨qs, t⟩
  · simp only [c4, List.mem_cons, List.not_mem_nil, or_false] at h1
    rcases h1 with rfl | rfl | rfl | rfl
    all_goals exact ⟨by kernel_rfl, shl_tup.mpr fun x hx => by
      simp only [List.mem_cons, List.not_mem_nil, or_false] at hx
      rcases hx with rfl | rfl | rfl
      · exact shl_int _
      · exact ⟨by kernel_rfl, by simp [deck, PyData.depth]⟩
      · exact shl_int _⟩
theorem movs_ne (h : okN u e l b = true) (hs : okS u l ps = true) : 1 ≤ (movs (four u e l b) (sett ps) ps.length).length := by
  obtain ⟨a1, a2, a3, a4, a5, a6, a7, a8, a9, a10⟩ := split_N h
  obtain ⟨h1, h4, hall⟩ := okS_split hs
  have hr : 0 < ps.length := by omega
  have hp : ps[0]? = some ps[0] := List.getElem?_eq_getElem hr
  have hpo : okP u l ps[0] = true := List.all_eq_true.mp hall _ (List.getElem_mem _)
  generalize ps[0] = p at *
  have hpo' : 0 ≤ p.1 ∧ p.1 ≤ u ∧ 0 ≤ p.2 ∧ p.2 ≤ l := by simp only [okP, Bool.and_eq_true, decide_eq_true_eq] at hpo; omega
  have key : ∃ c : Int, (c = 1 ∨ c = -1) ∧ okP u l (shP p true c) = true := by
    by_cases q : p.2 < l
    · exact ⟨1, .inl rfl, by simp [okP, shP]; omega⟩
    · exact ⟨-1, .inr rfl, by simp [okP, shP]; omega⟩
  obtain ⟨c, hc, ho⟩ := key
  have t := th_mv (e := e) (b := b) hs hp true hc
  rw [if_pos ho] at t
  have hm : mv ((0 : Nat) : Int) true c ∈ movR (four u e l b) (sett ps) 0 := by
    refine List.mem_filter.mpr ⟨?_, by rw [tM_at t]; rfl⟩
    rcases hc with rfl | rfl
    · simp [c4]
    · simp [c4]
  have hx : mv ((0 : Nat) : Int) true c ∈ movs (four u e l b) (sett ps) ps.length := List.mem_flatMap.mpr ⟨0, List.mem_range.mpr hr, hm⟩
  exact List.length_pos_of_mem hx
theorem lmoves_in (hs : okS u l ps = true) {r : Nat} (hr : r < ps.length) {F : List PyData} (hF : F.length < 1000) {x : Option PyData} : bLMoves1.1 [some (four u e l b), some (sett ps), some (.list F), some (.int (r : Int)), x] = some (.nx [some (four u e l b), some (sett ps), some (.list (F ++ movR (four u e l b) (sett ps) r)), some (.int (r : Int)), some (.list (c4 r))]) := by
  have fe : few (c4 r) = true := fewN (by simp [c4])
  have cp := compL_eq (ft := tst (op2 dNotN (calD gLBehind (consA (lkp 1) (consA (lkp 2) (consA (lkp 0) nilA)))) (cst .none))) (fe := lkp 0) (i := 0) (tM (four u e l b) (sett ps)) id (c4 r) [none, some (four u e l b), some (sett ps)] (fun d hd => by
      obtain ⟨o, t⟩ := c4_th (e := e) (b := b) hs hr d hd
      have lb := t.lb
      have nn := notN_oD o
      rw [tM_at t]
      generalize oD o = Z at *
      simp only [seqS, ifS, ifD, ifX, andB, orB, notB, tst, op2, chn, calD, tupD, lstD, consA, nilA, lkp, cst, retD, drpS, asgS, asgN, nxtS, nxX, orX, nevX, nevS, asB, List.getElem?_cons_zero, List.getElem?_cons_succ, Option.join_some, Option.bind_some, Option.bind_none, Option.map_some, Option.map_none, List.set_cons_succ, List.set_cons_zero, Bool.not_true, Bool.not_false, Bool.false_eq_true, if_true, if_false, lb, nn]) (fun d hd _ => by simp only [seqS, ifS, ifD, ifX, andB, orB, notB, tst, op2, chn, calD, tupD, lstD, consA, nilA, lkp, cst, retD, drpS, asgS, asgN, nxtS, nxX, orX, nevX, nevS, asB, List.getElem?_cons_zero, List.getElem?_cons_succ, Option.join_some, Option.bind_some, Option.bind_none, Option.map_some, Option.map_none, List.set_cons_succ, List.set_cons_zero, Bool.not_true, Bool.not_false, Bool.false_eq_true, if_true, if_false, id])
  rw [List.map_id] at cp
  have al : dAdd (.list F) (.list ((c4 r).filter (tM (four u e l b) (sett ps)))) = some (.list (F ++ movR (four u e l b) (sett ps) r)) := add_list (by have := movR_len (four u e l b) (sett ps) r; unfold movR at this; omega)
  simp only [bLMoves1]
  refine (seq_nx (ρ1 := [some (four u e l b), some (sett ps), some (.list F), some (.int (r : Int)), some (.list (c4 r))]) ?_).trans ?_
  · simp only [seqS, ifS, ifD, ifX, andB, orB, notB, tst, op2, chn, calD, tupD, lstD, consA, nilA, lkp, cst, retD, drpS, asgS, asgN, nxtS, nxX, orX, nevX, nevS, asB, List.getElem?_cons_zero, List.getElem?_cons_succ, Option.join_some, Option.bind_some, Option.bind_none, Option.map_some, Option.map_none, List.set_cons_succ, List.set_cons_zero, Bool.not_true, Bool.not_false, Bool.false_eq_true, if_true, if_false, ng1, fw3, fw4]
    rfl
  have it : items (.list (c4 r)) = some (c4 r) := rfl
  generalize PyData.list (c4 r) = C at *
  try simp only [seqS, ifS, ifD, ifX, andB, orB, notB, tst, op2, chn, calD, tupD, lstD, consA, nilA, lkp, cst, retD, drpS, asgS, asgN, nxtS, nxX, orX, nevX, nevS, asB, List.getElem?_cons_zero, List.getElem?_cons_succ, Option.join_some, Option.bind_some, Option.bind_none, Option.map_some, Option.map_none, List.set_cons_succ, List.set_cons_zero, Bool.not_true, Bool.not_false, Bool.false_eq_true, if_true, if_false] at cp
  simp only [seqS, ifS, ifD, ifX, andB, orB, notB, tst, op2, chn, calD, tupD, lstD, consA, nilA, lkp, cst, retD, drpS, asgS, asgN, nxtS, nxX, orX, nevX, nevS, asB, List.getElem?_cons_zero, List.getElem?_cons_succ, Option.join_some, Option.bind_some, Option.bind_none, Option.map_some, Option.map_none, List.set_cons_succ, List.set_cons_zero, Bool.not_true, Bool.not_false, Bool.false_eq_true, if_true, if_false, compD, itS, it, capR, List.map_cons, List.map_nil, fe, cp, al]
theorem lmoves_core {M T : PyData} {n : Int} {RR F : List PyData} {x3 x4 : Option PyData} (ln : dLen [T] = some (.int n)) (rg : rng1 [.int n] = some RR) (lp : loopD (asgN 3) bLMoves1.1 RR [some M, some T, some (.list []), none, none] = some (.nx [some M, some T, some (.list F), x3, x4])) : gLMoves [M, T] = some (.list F) := by
  refine body_rt rfl ?_
  show bLMoves.1 [some M, some T, none, none, none] = _
  simp only [bLMoves]
  refine (seq_nx (ρ1 := [some M, some T, some (.list []), none, none]) ?_).trans ?_
  · simp only [seqS, ifS, ifD, ifX, andB, orB, notB, tst, op2, chn, calD, tupD, lstD, consA, nilA, lkp, cst, retD, drpS, asgS, asgN, nxtS, nxX, orX, nevX, nevS, asB, List.getElem?_cons_zero, List.getElem?_cons_succ, Option.join_some, Option.bind_some, Option.bind_none, Option.map_some, Option.map_none, List.set_cons_succ, List.set_cons_zero, Bool.not_true, Bool.not_false, Bool.false_eq_true, if_true, if_false, few_nil]
  refine (seq_nx (ρ1 := [some M, some T, some (.list F), x3, x4]) ?_).trans ?_
  · simp only [forS, seqS, ifS, ifD, ifX, andB, orB, notB, tst, op2, chn, calD, tupD, lstD, consA, nilA, lkp, cst, retD, drpS, asgS, asgN, nxtS, nxX, orX, nevX, nevS, asB, List.getElem?_cons_zero, List.getElem?_cons_succ, Option.join_some, Option.bind_some, Option.bind_none, Option.map_some, Option.map_none, List.set_cons_succ, List.set_cons_zero, Bool.not_true, Bool.not_false, Bool.false_eq_true, if_true, if_false, ln, rg]
    exact lp
  simp only [seqS, ifS, ifD, ifX, andB, orB, notB, tst, op2, chn, calD, tupD, lstD, consA, nilA, lkp, cst, retD, drpS, asgS, asgN, nxtS, nxX, orX, nevX, nevS, asB, List.getElem?_cons_zero, List.getElem?_cons_succ, Option.join_some, Option.bind_some, Option.bind_none, Option.map_some, Option.map_none, List.set_cons_succ, List.set_cons_zero, Bool.not_true, Bool.not_false, Bool.false_eq_true, if_true, if_false]
theorem gLMoves_eq (hs : okS u l ps = true) : gLMoves [four u e l b, sett ps] = some (.list (movs (four u e l b) (sett ps) ps.length)) := by
  obtain ⟨h1, h4, hall⟩ := okS_split hs
  have rg : rng1 [.int (ps.length : Int)] = some (rngL 0 ps.length) := by
    have : rng1 [.int (ps.length : Int)] = some (rngL 0 (ps.length : Int).toNat) := rng1_eq (by omega) (by omega)
    rw [Int.toNat_natCast] at this; exact this
  have ln := len_sett ps
  obtain ⟨ρ', lp, x3, x4, e'⟩ := loop_inv (ga := asgN 3) (F := bLMoves1.1) (fun k ρ => ∃ x3 x4, ρ = [some (four u e l b), some (sett ps), some (.list (movs (four u e l b) (sett ps) k)), x3, x4]) (rngL 0 ps.length) 0 [some (four u e l b), some (sett ps), some (.list []), none, none] ⟨none, none, rfl⟩ (fun j d ρ hd ⟨x3, x4, e⟩ => by
    obtain ⟨hj, rfl⟩ := rngL_get hd
    subst e
    have hl := movs_len (four u e l b) (sett ps) j
    refine ⟨_, _, rfl, lmoves_in hs (r := j) hj (F := movs (four u e l b) (sett ps) (0 + j)) (by rw [Nat.zero_add]; omega), ⟨some (.int (j : Int)), some (.list (c4 j)), ?_⟩⟩
    rw [Nat.zero_add, movs_succ])
  rw [rngL_len, Nat.zero_add] at e'
  subst e'
  exact lmoves_core ln rg lp
end
end Rods

end
section
set_option Elab.async false
set_option linter.all false
set_option maxRecDepth 100000
set_option maxHeartbeats 4000000
namespace Rods
open PySem L2 BX
open PyProof.Rows hiding St

section
variable {u e l b : Int} {ps : List (Int × Int)}
theorem all_in2 (hs : okS u l ps = true) {r : Nat} (hr : r < ps.length) {F : List PyData} (hF : F.length < 1000) (k : Bool) {x : Option PyData} : ∃ y, bAllMoves2.1 [some (four u e l b), some (sett ps), some (.list F), some (.int (r : Int)), some (deck k), x] = some (.nx [some (four u e l b), some (sett ps), some (.list (F ++ [mv (r : Int) k 1, mv (r : Int) k (-1)].filter (tM (four u e l b) (sett ps)))), some (.int (r : Int)), some (deck k), y]) := by
  refine ⟨some (.list [mv (r : Int) k 1, mv (r : Int) k (-1)]), ?_⟩
  have hin : ∀ d ∈ [mv (r : Int) k 1, mv (r : Int) k (-1)], d ∈ c4 r := fun d hd => by
    simp only [List.mem_cons, List.not_mem_nil, or_false] at hd
    cases k <;> rcases hd with rfl | rfl <;> simp [c4]
  have cp := compL_eq (ft := tst (calD gCanMove (consA (lkp 1) (consA (lkp 2) (consA (lkp 0) nilA))))) (fe := lkp 0) (i := 0) (tM (four u e l b) (sett ps)) id [mv (r : Int) k 1, mv (r : Int) k (-1)] [none, some (four u e l b), some (sett ps)] (fun d hd => by
      obtain ⟨o, t⟩ := c4_th (e := e) (b := b) hs hr d (hin d hd)
      have cm := t.cm
      rw [tM_at t]
      simp only [seqS, ifS, ifD, ifX, andB, orB, notB, tst, op2, chn, calD, tupD, lstD, consA, nilA, lkp, cst, retD, drpS, asgS, asgN, nxtS, nxX, orX, nevX, nevS, asB, List.getElem?_cons_zero, List.getElem?_cons_succ, Option.join_some, Option.bind_some, Option.bind_none, Option.map_some, Option.map_none, List.set_cons_succ, List.set_cons_zero, Bool.not_true, Bool.not_false, Bool.false_eq_true, if_true, if_false, cm]) (fun d hd _ => by simp only [seqS, ifS, ifD, ifX, andB, orB, notB, tst, op2, chn, calD, tupD, lstD, consA, nilA, lkp, cst, retD, drpS, asgS, asgN, nxtS, nxX, orX, nevX, nevS, asB, List.getElem?_cons_zero, List.getElem?_cons_succ, Option.join_some, Option.bind_some, Option.bind_none, Option.map_some, Option.map_none, List.set_cons_succ, List.set_cons_zero, Bool.not_true, Bool.not_false, Bool.false_eq_true, if_true, if_false, id])
  rw [List.map_id] at cp
  have w1 : compL (asgN 0) truT (tupD (consA (lkp 1) (consA (lkp 2) (consA (lkp 0) nilA)))) [.int 1, .int (-1)] [none, some (.int (r : Int)), some (deck k)] = some [mv (r : Int) k 1, mv (r : Int) k (-1)] := by
    simp only [compL, truT, seqS, ifS, ifD, ifX, andB, orB, notB, tst, op2, chn, calD, tupD, lstD, consA, nilA, lkp, cst, retD, drpS, asgS, asgN, nxtS, nxX, orX, nevX, nevS, asB, List.getElem?_cons_zero, List.getElem?_cons_succ, Option.join_some, Option.bind_some, Option.bind_none, Option.map_some, Option.map_none, List.set_cons_succ, List.set_cons_zero, Bool.not_true, Bool.not_false, Bool.false_eq_true, if_true, if_false, fw3]
    rfl
  have el : extL (some (.list F)) (some (.list ([mv (r : Int) k 1, mv (r : Int) k (-1)].filter (tM (four u e l b) (sett ps))))) = some (.list (F ++ [mv (r : Int) k 1, mv (r : Int) k (-1)].filter (tM (four u e l b) (sett ps)))) := by
    have hl : ([mv (r : Int) k 1, mv (r : Int) k (-1)].filter (tM (four u e l b) (sett ps))).length ≤ 2 := List.length_filter_le _ _
    have hn : noLs ([mv (r : Int) k 1, mv (r : Int) k (-1)].filter (tM (four u e l b) (sett ps))) = true := noLs_all fun d hd => by
      have := (List.mem_filter.mp hd).1
      simp only [List.mem_cons, List.not_mem_nil, or_false] at this
      rcases this with rfl | rfl <;> rfl
    show (if _ ∧ _ then _ else _) = _
    rw [if_pos ⟨hn, by omega⟩]
  have iw : items (.tuple [.int 1, .int (-1)]) = some [.int 1, .int (-1)] := rfl
  simp only [bAllMoves2]
  refine (seq_nx (ρ1 := [some (four u e l b), some (sett ps), some (.list F), some (.int (r : Int)), some (deck k), some (.list [mv (r : Int) k 1, mv (r : Int) k (-1)])]) ?_).trans ?_
  · simp only [seqS, ifS, ifD, ifX, andB, orB, notB, tst, op2, chn, calD, tupD, lstD, consA, nilA, lkp, cst, retD, drpS, asgS, asgN, nxtS, nxX, orX, nevX, nevS, asB, List.getElem?_cons_zero, List.getElem?_cons_succ, Option.join_some, Option.bind_some, Option.bind_none, Option.map_some, Option.map_none, List.set_cons_succ, List.set_cons_zero, Bool.not_true, Bool.not_false, Bool.false_eq_true, if_true, if_false, brw, hid, okB, mutS, extD, appD, compD, itS, iw, capR, List.map_cons, List.map_nil, fw2]
    try simp only [seqS, ifS, ifD, ifX, andB, orB, notB, tst, op2, chn, calD, tupD, lstD, consA, nilA, lkp, cst, retD, drpS, asgS, asgN, nxtS, nxX, orX, nevX, nevS, asB, List.getElem?_cons_zero, List.getElem?_cons_succ, Option.join_some, Option.bind_some, Option.bind_none, Option.map_some, Option.map_none, List.set_cons_succ, List.set_cons_zero, Bool.not_true, Bool.not_false, Bool.false_eq_true, if_true, if_false] at w1
    simp only [w1, seqS, ifS, ifD, ifX, andB, orB, notB, tst, op2, chn, calD, tupD, lstD, consA, nilA, lkp, cst, retD, drpS, asgS, asgN, nxtS, nxX, orX, nevX, nevS, asB, List.getElem?_cons_zero, List.getElem?_cons_succ, Option.join_some, Option.bind_some, Option.bind_none, Option.map_some, Option.map_none, List.set_cons_succ, List.set_cons_zero, Bool.not_true, Bool.not_false, Bool.false_eq_true, if_true, if_false]
  have it : items (.list [mv (r : Int) k 1, mv (r : Int) k (-1)]) = some [mv (r : Int) k 1, mv (r : Int) k (-1)] := rfl
  have f2 : few [mv (r : Int) k 1, mv (r : Int) k (-1)] = true := fw2
  generalize [mv (r : Int) k 1, mv (r : Int) k (-1)] = TWO at *
  generalize PyData.list TWO = C at *
  try simp only [seqS, ifS, ifD, ifX, andB, orB, notB, tst, op2, chn, calD, tupD, lstD, consA, nilA, lkp, cst, retD, drpS, asgS, asgN, nxtS, nxX, orX, nevX, nevS, asB, List.getElem?_cons_zero, List.getElem?_cons_succ, Option.join_some, Option.bind_some, Option.bind_none, Option.map_some, Option.map_none, List.set_cons_succ, List.set_cons_zero, Bool.not_true, Bool.not_false, Bool.false_eq_true, if_true, if_false] at cp
  simp only [seqS, ifS, ifD, ifX, andB, orB, notB, tst, op2, chn, calD, tupD, lstD, consA, nilA, lkp, cst, retD, drpS, asgS, asgN, nxtS, nxX, orX, nevX, nevS, asB, List.getElem?_cons_zero, List.getElem?_cons_succ, Option.join_some, Option.bind_some, Option.bind_none, Option.map_some, Option.map_none, List.set_cons_succ, List.set_cons_zero, Bool.not_true, Bool.not_false, Bool.false_eq_true, if_true, if_false, brw, hid, okB, mutS, extD, appD, compD, itS, it, capR, List.map_cons, List.map_nil, f2, cp, el]
theorem all_in1 (hs : okS u l ps = true) {r : Nat} (hr : r < ps.length) {F : List PyData} (hF : F.length < 900) {x4 x5 : Option PyData} : ∃ y4 y5, bAllMoves1.1 [some (four u e l b), some (sett ps), some (.list F), some (.int (r : Int)), x4, x5] = some (.nx [some (four u e l b), some (sett ps), some (.list (F ++ movR (four u e l b) (sett ps) r)), some (.int (r : Int)), y4, y5]) := by
  obtain ⟨y, s1⟩ := all_in2 (e := e) (b := b) hs hr (F := F) (by omega) false (x := x5)
  have hl : ([mv (r : Int) false 1, mv (r : Int) false (-1)].filter (tM (four u e l b) (sett ps))).length ≤ 2 := List.length_filter_le _ _
  obtain ⟨y', s2⟩ := all_in2 (e := e) (b := b) hs hr (F := F ++ [mv (r : Int) false 1, mv (r : Int) false (-1)].filter (tM (four u e l b) (sett ps))) (by rw [List.length_append]; omega) true (x := y)
  refine ⟨some (deck true), y', ?_⟩
  have iw : items (.tuple [.str "upper", .str "lower"]) = some [deck false, deck true] := rfl
  have eR : F ++ movR (four u e l b) (sett ps) r = (F ++ [mv (r : Int) false 1, mv (r : Int) false (-1)].filter (tM (four u e l b) (sett ps))) ++ [mv (r : Int) true 1, mv (r : Int) true (-1)].filter (tM (four u e l b) (sett ps)) := by
    rw [List.append_assoc, ← List.filter_append]; rfl
  rw [eR]
  simp only [bAllMoves1]
  refine (seq_nx (ρ1 := [some (four u e l b), some (sett ps), some (.list ((F ++ [mv (r : Int) false 1, mv (r : Int) false (-1)].filter (tM (four u e l b) (sett ps))) ++ [mv (r : Int) true 1, mv (r : Int) true (-1)].filter (tM (four u e l b) (sett ps)))), some (.int (r : Int)), some (deck true), y']) ?_).trans rfl
  generalize mv (r : Int) false 1 = m1 at *
  generalize mv (r : Int) false (-1) = m2 at *
  generalize mv (r : Int) true 1 = m3 at *
  generalize mv (r : Int) true (-1) = m4 at *
  simp only [forS, itS, seqS, ifS, ifD, ifX, andB, orB, notB, tst, op2, chn, calD, tupD, lstD, consA, nilA, lkp, cst, retD, drpS, asgS, asgN, nxtS, nxX, orX, nevX, nevS, asB, List.getElem?_cons_zero, List.getElem?_cons_succ, Option.join_some, Option.bind_some, Option.bind_none, Option.map_some, Option.map_none, List.set_cons_succ, List.set_cons_zero, Bool.not_true, Bool.not_false, Bool.false_eq_true, if_true, if_false, brw, hid, okB, mutS, extD, appD, iw, loopD, s1, s2]
theorem all_core {M T : PyData} {n : Int} {RR F : List PyData} {x3 x4 x5 : Option PyData} (ck : gChkSet [M, T] = some .none) (ln : dLen [T] = some (.int n)) (rg : rng1 [.int n] = some RR) (lp : loopD (asgN 3) bAllMoves1.1 RR [some M, some T, some (.list []), none, none, none] = some (.nx [some M, some T, some (.list F), x3, x4, x5])) : gAllMoves [M, T] = some (.list F) := by
  refine body_rt rfl ?_
  show bAllMoves.1 [some M, some T, none, none, none, none] = _
  simp only [bAllMoves]
  refine (seq_nx (ρ1 := [some M, some T, none, none, none, none]) ?_).trans ?_
  · simp only [seqS, ifS, ifD, ifX, andB, orB, notB, tst, op2, chn, calD, tupD, lstD, consA, nilA, lkp, cst, retD, drpS, asgS, asgN, nxtS, nxX, orX, nevX, nevS, asB, List.getElem?_cons_zero, List.getElem?_cons_succ, Option.join_some, Option.bind_some, Option.bind_none, Option.map_some, Option.map_none, List.set_cons_succ, List.set_cons_zero, Bool.not_true, Bool.not_false, Bool.false_eq_true, if_true, if_false, ck]
  have key : ∀ {Y : Rho → Option Out} {d : PyData}, Y [some M, some T, some (.list []), none, none, none] = some (.rt d) → newS 2 (lstD nilA) Y [some M, some T, none, none, none, none] = some (.rt d) := fun {Y d} hy => by
    have l8 : 2 < [some M, some T, none, none, none, none].length := by simp
    simp only [newS, seqS, ifS, ifD, ifX, andB, orB, notB, tst, op2, chn, calD, tupD, lstD, consA, nilA, lkp, cst, retD, drpS, asgS, asgN, nxtS, nxX, orX, nevX, nevS, asB, List.getElem?_cons_zero, List.getElem?_cons_succ, Option.join_some, Option.bind_some, Option.bind_none, Option.map_some, Option.map_none, List.set_cons_succ, List.set_cons_zero, Bool.not_true, Bool.not_false, Bool.false_eq_true, if_true, if_false, few_nil, hy]
    rw [if_pos l8]
  refine key ?_
  refine (seq_nx (ρ1 := [some M, some T, some (.list F), x3, x4, x5]) ?_).trans ?_
  · simp only [forS, seqS, ifS, ifD, ifX, andB, orB, notB, tst, op2, chn, calD, tupD, lstD, consA, nilA, lkp, cst, retD, drpS, asgS, asgN, nxtS, nxX, orX, nevX, nevS, asB, List.getElem?_cons_zero, List.getElem?_cons_succ, Option.join_some, Option.bind_some, Option.bind_none, Option.map_some, Option.map_none, List.set_cons_succ, List.set_cons_zero, Bool.not_true, Bool.not_false, Bool.false_eq_true, if_true, if_false, brw, hid, okB, mutS, extD, appD, ln, rg]
    exact lp
  simp only [seqS, ifS, ifD, ifX, andB, orB, notB, tst, op2, chn, calD, tupD, lstD, consA, nilA, lkp, cst, retD, drpS, asgS, asgN, nxtS, nxX, orX, nevX, nevS, asB, List.getElem?_cons_zero, List.getElem?_cons_succ, Option.join_some, Option.bind_some, Option.bind_none, Option.map_some, Option.map_none, List.set_cons_succ, List.set_cons_zero, Bool.not_true, Bool.not_false, Bool.false_eq_true, if_true, if_false]
theorem gAllMoves_eq (H : allN = true) (h : okN u e l b = true) (hs : okS u l ps = true) : gAllMoves [four u e l b, sett ps] = some (.list (movs (four u e l b) (sett ps) ps.length)) := by
  obtain ⟨h1, h4, hall⟩ := okS_split hs
  have ck := (chk_ok H h hs).1
  have rg : rng1 [.int (ps.length : Int)] = some (rngL 0 ps.length) := by
    have : rng1 [.int (ps.length : Int)] = some (rngL 0 (ps.length : Int).toNat) := rng1_eq (by omega) (by omega)
    rw [Int.toNat_natCast] at this; exact this
  have ln := len_sett ps
  obtain ⟨ρ', lp, x3, x4, x5, e'⟩ := loop_inv (ga := asgN 3) (F := bAllMoves1.1) (fun k ρ => ∃ x3 x4 x5, ρ = [some (four u e l b), some (sett ps), some (.list (movs (four u e l b) (sett ps) k)), x3, x4, x5]) (rngL 0 ps.length) 0 [some (four u e l b), some (sett ps), some (.list []), none, none, none] ⟨none, none, none, rfl⟩ (fun j d ρ hd ⟨x3, x4, x5, e⟩ => by
    obtain ⟨hj, rfl⟩ := rngL_get hd
    subst e
    have hl := movs_len (four u e l b) (sett ps) j
    obtain ⟨y4, y5, q⟩ := all_in1 (e := e) (b := b) hs (r := j) hj (F := movs (four u e l b) (sett ps) (0 + j)) (by rw [Nat.zero_add]; omega) (x4 := x4) (x5 := x5)
    refine ⟨_, _, rfl, q, ⟨some (.int (j : Int)), y4, y5, ?_⟩⟩
    rw [Nat.zero_add, movs_succ])
  rw [rngL_len, Nat.zero_add] at e'
  subst e'
  exact all_core ck ln rg lp
end
end Rods

end
section
set_option Elab.async false
set_option linter.all false
set_option maxRecDepth 100000
set_option maxHeartbeats 4000000
namespace Rods
open PySem L2 BX
open PyProof.Rows hiding St

inductive Path (u e l b : Int) : List (Int × Int) → List PyData → List (Int × Int) → Prop
  | nil (ps : List (Int × Int)) : Path u e l b ps [] ps
  | cons {ps qs rs : List (Int × Int)} {d : PyData} {ms : List PyData} : Th u e l b ps d (some qs) → Path u e l b qs ms rs → Path u e l b ps (d :: ms) rs
theorem Path.snoc {u e l b : Int} {ps qs rs : List (Int × Int)} {d : PyData} {ms : List PyData} (p : Path u e l b ps ms qs) (t : Th u e l b qs d (some rs)) : Path u e l b ps (ms ++ [d]) rs := by
  induction p with
  | nil ps => exact .cons t (.nil _)
  | cons t' _ ih => exact .cons t' (ih t)
theorem Path.split {u e l b : Int} : ∀ (as bs : List PyData) {ps rs : List (Int × Int)}, Path u e l b ps (as ++ bs) rs → ∃ qs, Path u e l b ps as qs ∧ Path u e l b qs bs rs
  | [], bs, ps, rs, p => ⟨ps, .nil _, p⟩
  | a :: as, bs, ps, rs, p => by
    cases p with
    | cons t p' =>
      obtain ⟨qs, q1, q2⟩ := Path.split as bs p'
      exact ⟨qs, .cons t q1, q2⟩
section
variable {u e l b : Int}
theorem Path.ok {ps qs : List (Int × Int)} {ms : List PyData} (p : Path u e l b ps ms qs) (hs : okS u l ps = true) : okS u l qs = true := by
  induction p with
  | nil ps => exact hs
  | cons t _ ih => exact ih (t.bm _ rfl).2
theorem run_in {M T0 L N D Q x : PyData} (g : gMoved [M, N, D] = some Q) : bRun1.1 [some M, some T0, some L, some N, some D] = some (.nx [some M, some T0, some L, some Q, some D]) := by
  simp only [bRun1, seqS, ifS, ifD, ifX, andB, orB, notB, tst, op2, chn, calD, tupD, lstD, consA, nilA, lkp, cst, retD, drpS, asgS, asgN, nxtS, nxX, orX, nevX, nevS, asB, List.getElem?_cons_zero, List.getElem?_cons_succ, Option.join_some, Option.bind_some, Option.bind_none, Option.map_some, Option.map_none, List.set_cons_succ, List.set_cons_zero, Bool.not_true, Bool.not_false, Bool.false_eq_true, if_true, if_false, g]
theorem run_in_no {M T0 L N D : PyData} (g : gMoved [M, N, D] = none) : bRun1.1 [some M, some T0, some L, some N, some D] = none := by
  simp only [bRun1, seqS, ifS, ifD, ifX, andB, orB, notB, tst, op2, chn, calD, tupD, lstD, consA, nilA, lkp, cst, retD, drpS, asgS, asgN, nxtS, nxX, orX, nevX, nevS, asB, List.getElem?_cons_zero, List.getElem?_cons_succ, Option.join_some, Option.bind_some, Option.bind_none, Option.map_some, Option.map_none, List.set_cons_succ, List.set_cons_zero, Bool.not_true, Bool.not_false, Bool.false_eq_true, if_true, if_false, g]
theorem th_moved (H : allN = true) (h : okN u e l b = true) {ps qs : List (Int × Int)} {d : PyData} (hs : okS u l ps = true) (t : Th u e l b ps d (some qs)) : gMoved [four u e l b, sett ps, d] = some (sett qs) :=
  moved_ok (chk_ok H h hs).1 t.cm (t.bm _ rfl).1
theorem run_loop (H : allN = true) (h : okN u e l b = true) {T0 L : PyData} : ∀ (ms : List PyData) (ps qs : List (Int × Int)) (x : Option PyData), okS u l ps = true → Path u e l b ps ms qs → ∃ y, loopD (asgN 4) bRun1.1 ms [some (four u e l b), some T0, some L, some (sett ps), x] = some (.nx [some (four u e l b), some T0, some L, some (sett qs), y])
  | [], ps, qs, x, _, p => by cases p; exact ⟨x, rfl⟩
  | d :: ms, ps, qs, x, hs, p => by
    cases p with
    | cons t p' =>
      obtain ⟨y, hy⟩ := run_loop H h (T0 := T0) (L := L) ms _ qs (some d) (t.bm _ rfl).2 p'
      refine ⟨y, ?_⟩
      have st := run_in (T0 := T0) (L := L) (x := .none) (th_moved H h hs t)
      simp only [loopD, asgN, Option.bind_some, List.set_cons_succ, List.set_cons_zero, st]
      exact hy
theorem run_core {M T T' L : PyData} {ms : List PyData} {y : Option PyData} (ck : gChkSet [M, T] = some .none) (il : isiO "list" L = some (.bool true)) (it : items L = some ms) (lp : loopD (asgN 4) bRun1.1 ms [some M, some T, some L, some T, none] = some (.nx [some M, some T, some L, some T', y])) : gRun [M, T, L] = some T' := by
  refine body_rt rfl ?_
  show bRun.1 [some M, some T, some L, none, none] = _
  simp only [bRun]
  refine (seq_nx (ρ1 := [some M, some T, some L, none, none]) ?_).trans ?_
  · simp only [seqS, ifS, ifD, ifX, andB, orB, notB, tst, op2, chn, calD, tupD, lstD, consA, nilA, lkp, cst, retD, drpS, asgS, asgN, nxtS, nxX, orX, nevX, nevS, asB, List.getElem?_cons_zero, List.getElem?_cons_succ, Option.join_some, Option.bind_some, Option.bind_none, Option.map_some, Option.map_none, List.set_cons_succ, List.set_cons_zero, Bool.not_true, Bool.not_false, Bool.false_eq_true, if_true, if_false, ck]
  refine (seq_nx (ρ1 := [some M, some T, some L, none, none]) ?_).trans ?_
  · simp only [seqS, ifS, ifD, ifX, andB, orB, notB, tst, op2, chn, calD, tupD, lstD, consA, nilA, lkp, cst, retD, drpS, asgS, asgN, nxtS, nxX, orX, nevX, nevS, asB, List.getElem?_cons_zero, List.getElem?_cons_succ, Option.join_some, Option.bind_some, Option.bind_none, Option.map_some, Option.map_none, List.set_cons_succ, List.set_cons_zero, Bool.not_true, Bool.not_false, Bool.false_eq_true, if_true, if_false, il]
  refine (seq_nx (ρ1 := [some M, some T, some L, some T, none]) ?_).trans ?_
  · simp only [seqS, ifS, ifD, ifX, andB, orB, notB, tst, op2, chn, calD, tupD, lstD, consA, nilA, lkp, cst, retD, drpS, asgS, asgN, nxtS, nxX, orX, nevX, nevS, asB, List.getElem?_cons_zero, List.getElem?_cons_succ, Option.join_some, Option.bind_some, Option.bind_none, Option.map_some, Option.map_none, List.set_cons_succ, List.set_cons_zero, Bool.not_true, Bool.not_false, Bool.false_eq_true, if_true, if_false]
  refine (seq_nx (ρ1 := [some M, some T, some L, some T', y]) ?_).trans ?_
  · simp only [forS, itS, seqS, ifS, ifD, ifX, andB, orB, notB, tst, op2, chn, calD, tupD, lstD, consA, nilA, lkp, cst, retD, drpS, asgS, asgN, nxtS, nxX, orX, nevX, nevS, asB, List.getElem?_cons_zero, List.getElem?_cons_succ, Option.join_some, Option.bind_some, Option.bind_none, Option.map_some, Option.map_none, List.set_cons_succ, List.set_cons_zero, Bool.not_true, Bool.not_false, Bool.false_eq_true, if_true, if_false, it]
    exact lp
  simp only [seqS, ifS, ifD, ifX, andB, orB, notB, tst, op2, chn, calD, tupD, lstD, consA, nilA, lkp, cst, retD, drpS, asgS, asgN, nxtS, nxX, orX, nevX, nevS, asB, List.getElem?_cons_zero, List.getElem?_cons_succ, Option.join_some, Option.bind_some, Option.bind_none, Option.map_some, Option.map_none, List.set_cons_succ, List.set_cons_zero, Bool.not_true, Bool.not_false, Bool.false_eq_true, if_true, if_false]
theorem gRun_eq (H : allN = true) (h : okN u e l b = true) {ps qs : List (Int × Int)} {ms : List PyData} (hs : okS u l ps = true) (p : Path u e l b ps ms qs) : gRun [four u e l b, sett ps, .list ms] = some (sett qs) := by
  obtain ⟨y, lp⟩ := run_loop H h (T0 := sett ps) (L := .list ms) ms ps qs none hs p
  exact run_core (chk_ok H h hs).1 rfl rfl lp
theorem run_loop_no (H : allN = true) (h : okN u e l b = true) {T0 L d : PyData} {ns : List PyData} : ∀ (ms : List PyData) (ps qs : List (Int × Int)) (x : Option PyData), okS u l ps = true → Path u e l b ps ms qs → Th u e l b qs d none → loopD (asgN 4) bRun1.1 (ms ++ d :: ns) [some (four u e l b), some T0, some L, some (sett ps), x] = none
  | [], ps, qs, x, hs, p, t => by
    cases p
    have g := (moved_no (chk_ok H h hs).1 (chk_ok H h hs).2 t.cm).1
    have st := run_in_no (T0 := T0) (L := L) g
    simp only [List.nil_append, loopD, asgN, Option.bind_some, List.set_cons_succ, List.set_cons_zero, st, Option.bind_none]
  | d' :: ms, ps, qs, x, hs, p, t => by
    cases p with
    | cons t' p' =>
      have hy := run_loop_no H h (T0 := T0) (L := L) (d := d) (ns := ns) ms _ qs (some d') (t'.bm _ rfl).2 p' t
      have st := run_in (T0 := T0) (L := L) (x := .none) (th_moved H h hs t')
      simp only [List.cons_append, loopD, asgN, Option.bind_some, List.set_cons_succ, List.set_cons_zero, st]
      exact hy
noncomputable abbrev rF : Rho → Option Out := seqS (asgS (calD gMoved (consA (lkp 0) (consA (lkp 3) (consA (lkp 4) nilA)))) (asgN 3)) nxtS
noncomputable abbrev rX : Rho → Option Str := fun ρ => ((consA (lkp 0) (consA (lkp 3) (consA (lkp 4) nilA))) ρ).bind tMoved
theorem rx_in {M T0 L N D Q : PyData} (g : gMoved [M, N, D] = some Q) : rF [some M, some T0, some L, some N, some D] = some (.nx [some M, some T0, some L, some Q, some D]) := by
  simp only [rF, seqS, ifS, ifD, ifX, andB, orB, notB, tst, op2, chn, calD, tupD, lstD, consA, nilA, lkp, cst, retD, drpS, asgS, asgN, nxtS, nxX, orX, nevX, nevS, asB, List.getElem?_cons_zero, List.getElem?_cons_succ, Option.join_some, Option.bind_some, Option.bind_none, Option.map_some, Option.map_none, List.set_cons_succ, List.set_cons_zero, Bool.not_true, Bool.not_false, Bool.false_eq_true, if_true, if_false, g]
theorem rx_in_no {M T0 L N D : PyData} {c : Str} (g : gMoved [M, N, D] = none) (x : tMoved [M, N, D] = some c) : rF [some M, some T0, some L, some N, some D] = none ∧ rX [some M, some T0, some L, some N, some D] = some c := by
  constructor
  · simp only [rF, seqS, ifS, ifD, ifX, andB, orB, notB, tst, op2, chn, calD, tupD, lstD, consA, nilA, lkp, cst, retD, drpS, asgS, asgN, nxtS, nxX, orX, nevX, nevS, asB, List.getElem?_cons_zero, List.getElem?_cons_succ, Option.join_some, Option.bind_some, Option.bind_none, Option.map_some, Option.map_none, List.set_cons_succ, List.set_cons_zero, Bool.not_true, Bool.not_false, Bool.false_eq_true, if_true, if_false, g]
  · simp only [rX, seqS, ifS, ifD, ifX, andB, orB, notB, tst, op2, chn, calD, tupD, lstD, consA, nilA, lkp, cst, retD, drpS, asgS, asgN, nxtS, nxX, orX, nevX, nevS, asB, List.getElem?_cons_zero, List.getElem?_cons_succ, Option.join_some, Option.bind_some, Option.bind_none, Option.map_some, Option.map_none, List.set_cons_succ, List.set_cons_zero, Bool.not_true, Bool.not_false, Bool.false_eq_true, if_true, if_false, x]
theorem loopX_nx {ga : PyData → Rho → Option Rho} {F : Rho → Option Out} {fx : Rho → Option Str} {d : PyData} {ds : List PyData} {ρ ρ1 ρ2 : Rho} (h1 : ga d ρ = some ρ1) (h2 : F ρ1 = some (.nx ρ2)) : loopX ga F fx (d :: ds) ρ = loopX ga F fx ds ρ2 := by
  show (ga d ρ).bind _ = _
  rw [h1, Option.bind_some, h2]
theorem loopX_no {ga : PyData → Rho → Option Rho} {F : Rho → Option Out} {fx : Rho → Option Str} {d : PyData} {ds : List PyData} {ρ ρ1 : Rho} (h1 : ga d ρ = some ρ1) (h2 : F ρ1 = none) : loopX ga F fx (d :: ds) ρ = fx ρ1 := by
  show (ga d ρ).bind _ = _
  rw [h1, Option.bind_some, h2]
theorem rx_loop_no (H : allN = true) (h : okN u e l b = true) {T0 L d : PyData} {ns : List PyData} : ∀ (ms : List PyData) (ps qs : List (Int × Int)) (x : Option PyData), okS u l ps = true → Path u e l b ps ms qs → Th u e l b qs d none → loopX (asgN 4) rF rX (ms ++ d :: ns) [some (four u e l b), some T0, some L, some (sett ps), x] = some ("NoMove" : Str)
  | [], ps, qs, x, hs, p, t => by
    cases p
    obtain ⟨g1, g2⟩ := moved_no (chk_ok H h hs).1 (chk_ok H h hs).2 t.cm
    obtain ⟨s1, s2⟩ := rx_in_no (T0 := T0) (L := L) g1 g2
    exact (loopX_no rfl s1).trans s2
  | d' :: ms, ps, qs, x, hs, p, t => by
    cases p with
    | cons t' p' =>
      have hy := rx_loop_no H h (T0 := T0) (L := L) (d := d) (ns := ns) ms _ qs (some d') (t'.bm _ rfl).2 p' t
      have st := rx_in (T0 := T0) (L := L) (th_moved H h hs t')
      exact (loopX_nx rfl st).trans hy
theorem seq_no {F G : Rho → Option Out} {ρ : Rho} (h : F ρ = none) : seqS F G ρ = none := by
  unfold seqS
  rw [h]; rfl
theorem run_coreX {M T L : PyData} {ms : List PyData} {c : Str} (ck : gChkSet [M, T] = some .none) (xk : tChkSet [M, T] = none) (il : isiO "list" L = some (.bool true)) (it : items L = some ms) (lp : loopD (asgN 4) bRun1.1 ms [some M, some T, some L, some T, none] = none) (lx : loopX (asgN 4) rF rX ms [some M, some T, some L, some T, none] = some c) : gRun [M, T, L] = none ∧ tRun [M, T, L] = some c := by
  constructor
  · refine body_no rfl ?_
    show bRun.1 [some M, some T, some L, none, none] = _
    simp only [bRun]
    refine (seq_nx (ρ1 := [some M, some T, some L, none, none]) ?_).trans ?_
    · simp only [seqS, ifS, ifD, ifX, andB, orB, notB, tst, op2, chn, calD, tupD, lstD, consA, nilA, lkp, cst, retD, drpS, asgS, asgN, nxtS, nxX, orX, nevX, nevS, asB, List.getElem?_cons_zero, List.getElem?_cons_succ, Option.join_some, Option.bind_some, Option.bind_none, Option.map_some, Option.map_none, List.set_cons_succ, List.set_cons_zero, Bool.not_true, Bool.not_false, Bool.false_eq_true, if_true, if_false, ck]
    refine (seq_nx (ρ1 := [some M, some T, some L, none, none]) ?_).trans ?_
    · simp only [seqS, ifS, ifD, ifX, andB, orB, notB, tst, op2, chn, calD, tupD, lstD, consA, nilA, lkp, cst, retD, drpS, asgS, asgN, nxtS, nxX, orX, nevX, nevS, asB, List.getElem?_cons_zero, List.getElem?_cons_succ, Option.join_some, Option.bind_some, Option.bind_none, Option.map_some, Option.map_none, List.set_cons_succ, List.set_cons_zero, Bool.not_true, Bool.not_false, Bool.false_eq_true, if_true, if_false, il]
    refine (seq_nx (ρ1 := [some M, some T, some L, some T, none]) ?_).trans ?_
    · simp only [seqS, ifS, ifD, ifX, andB, orB, notB, tst, op2, chn, calD, tupD, lstD, consA, nilA, lkp, cst, retD, drpS, asgS, asgN, nxtS, nxX, orX, nevX, nevS, asB, List.getElem?_cons_zero, List.getElem?_cons_succ, Option.join_some, Option.bind_some, Option.bind_none, Option.map_some, Option.map_none, List.set_cons_succ, List.set_cons_zero, Bool.not_true, Bool.not_false, Bool.false_eq_true, if_true, if_false]
    refine seq_no ?_
    simp only [forS, itS, seqS, ifS, ifD, ifX, andB, orB, notB, tst, op2, chn, calD, tupD, lstD, consA, nilA, lkp, cst, retD, drpS, asgS, asgN, nxtS, nxX, orX, nevX, nevS, asB, List.getElem?_cons_zero, List.getElem?_cons_succ, Option.join_some, Option.bind_some, Option.bind_none, Option.map_some, Option.map_none, List.set_cons_succ, List.set_cons_zero, Bool.not_true, Bool.not_false, Bool.false_eq_true, if_true, if_false, it]
    exact lp
  · refine bodyX_at' rfl ?_
    show xRun.1 [some M, some T, some L, none, none] = _
    simp only [xRun, forX, itS, hid, seqS, ifS, ifD, ifX, andB, orB, notB, tst, op2, chn, calD, tupD, lstD, consA, nilA, lkp, cst, retD, drpS, asgS, asgN, nxtS, nxX, orX, nevX, nevS, asB, List.getElem?_cons_zero, List.getElem?_cons_succ, Option.join_some, Option.bind_some, Option.bind_none, Option.map_some, Option.map_none, List.set_cons_succ, List.set_cons_zero, Bool.not_true, Bool.not_false, Bool.false_eq_true, if_true, if_false, ck, xk, il, it, oe_none, oe_some]
    exact lx
theorem run_no (H : allN = true) (h : okN u e l b = true) {ps qs : List (Int × Int)} {ms ns : List PyData} {d : PyData} (hs : okS u l ps = true) (p : Path u e l b ps ms qs) (t : Th u e l b qs d none) : gRun [four u e l b, sett ps, .list (ms ++ d :: ns)] = none ∧ tRun [four u e l b, sett ps, .list (ms ++ d :: ns)] = some ("NoMove" : Str) :=
  run_coreX (chk_ok H h hs).1 (chk_ok H h hs).2 rfl rfl (run_loop_no H h ms ps qs none hs p t) (rx_loop_no H h ms ps qs none hs p t)
theorem dm_in {S M T T' D : PyData} {a k j : Int} {ds acc : List PyData} {x : Option PyData} (g : gLMoves [M, T] = some (.list ds)) (ln : dLen [.list ds] = some (.int (ds.length : Int))) (dr : gDrawn [S, .int (a + 1 + k), .int (ds.length : Int)] = some (.int j)) (ix : dIx (.list ds) (.int j) = some D) (nd : noL D = true) (hl : acc.length < 1000) (bh : gLBehind [M, T, D] = some T') (nt : noL T' = true) : bLDrawnMoves1.1 [some S, some (.int a), some M, some T, some (.list acc), some (.int k), x] = some (.nx [some S, some (.int a), some M, some T', some (.list (acc ++ [D])), some (.int k), some (.list ds)]) := by
  have a1 : dAdd (.int a) (.int 1) = some (.int (a + 1)) := rfl
  have a2 : dAdd (.int (a + 1)) (.int k) = some (.int (a + 1 + k)) := rfl
  have ap : appL (some (.list acc)) (some D) = some (.list (acc ++ [D])) := by
    show (if _ ∧ _ then _ else _) = _
    rw [if_pos ⟨nd, by omega⟩]
  have lst : dIx (.list (acc ++ [D])) (.int (-1)) = some D := by
    show (if (acc ++ [D]).length < 1000000 then atI (acc ++ [D]) (-1) else none) = _
    rw [if_pos (by rw [List.length_append]; simp; omega)]
    unfold atI
    have e1 : ixN (acc ++ [D]).length (-1) = some acc.length := by
      rw [List.length_append]
      simp only [List.length_cons, List.length_nil]
      unfold ixN
      simp
      omega
    rw [e1]
    simp
  simp only [bLDrawnMoves1]
  generalize hds : PyData.list ds = DS at *
  refine (seq_nx (ρ1 := [some S, some (.int a), some M, some T, some (.list acc), some (.int k), some DS]) ?_).trans ?_
  · simp only [seqS, ifS, ifD, ifX, andB, orB, notB, tst, op2, chn, calD, tupD, lstD, consA, nilA, lkp, cst, retD, drpS, asgS, asgN, nxtS, nxX, orX, nevX, nevS, asB, List.getElem?_cons_zero, List.getElem?_cons_succ, Option.join_some, Option.bind_some, Option.bind_none, Option.map_some, Option.map_none, List.set_cons_succ, List.set_cons_zero, Bool.not_true, Bool.not_false, Bool.false_eq_true, if_true, if_false, brw, hid, okB, mutS, extD, appD, g]
  refine (seq_nx (ρ1 := [some S, some (.int a), some M, some T, some (.list (acc ++ [D])), some (.int k), some DS]) ?_).trans ?_
  · generalize (ds.length : Int) = n at *
    simp only [seqS, ifS, ifD, ifX, andB, orB, notB, tst, op2, chn, calD, tupD, lstD, consA, nilA, lkp, cst, retD, drpS, asgS, asgN, nxtS, nxX, orX, nevX, nevS, asB, List.getElem?_cons_zero, List.getElem?_cons_succ, Option.join_some, Option.bind_some, Option.bind_none, Option.map_some, Option.map_none, List.set_cons_succ, List.set_cons_zero, Bool.not_true, Bool.not_false, Bool.false_eq_true, if_true, if_false, brw, hid, okB, mutS, extD, appD, ln, a1, a2, dr, ix, ap]
  simp only [seqS, ifS, ifD, ifX, andB, orB, notB, tst, op2, chn, calD, tupD, lstD, consA, nilA, lkp, cst, retD, drpS, asgS, asgN, nxtS, nxX, orX, nevX, nevS, asB, List.getElem?_cons_zero, List.getElem?_cons_succ, Option.join_some, Option.bind_some, Option.bind_none, Option.map_some, Option.map_none, List.set_cons_succ, List.set_cons_zero, Bool.not_true, Bool.not_false, Bool.false_eq_true, if_true, if_false, brw, hid, okB, mutS, extD, appD, Option.join_none, ng1, lst, bh, nt]
end
end Rods

end
section
set_option Elab.async false
set_option linter.all false
set_option maxRecDepth 100000
set_option maxHeartbeats 4000000
namespace Rods
open PySem L2 BX
open PyProof.Rows hiding St

section
variable {u e l b : Int}
theorem len_list (ds : List PyData) : dLen [.list ds] = some (.int (ds.length : Int)) := rfl
theorem noL_sett (qs : List (Int × Int)) : noL (sett qs) = true := by
  show noLs (qs.map pr) = true
  refine noLs_all fun d hd => ?_
  obtain ⟨p, _, rfl⟩ := List.mem_map.mp hd
  rfl
theorem dm_step (h : okN u e l b = true) {ns : List Int} (hn : ns.length < 1000000) {a k : Int} (ha : 0 ≤ a) (hk : 0 ≤ k) {ps : List (Int × Int)} (hs : okS u l ps = true) : ∃ D qs X, Th u e l b ps D (some qs) ∧ ∀ (acc : List PyData) (x6 : Option PyData), acc.length < 1000 → bLDrawnMoves1.1 [some (scr ns), some (.int a), some (four u e l b), some (sett ps), some (.list acc), some (.int k), x6] = some (.nx [some (scr ns), some (.int a), some (four u e l b), some (sett qs), some (.list (acc ++ [D])), some (.int k), X]) := by
  obtain ⟨h1, h4, hall⟩ := okS_split hs
  have ne := movs_ne (e := e) (b := b) h hs
  have ml := movs_len (four u e l b) (sett ps) ps.length
  have gl := gLMoves_eq (e := e) (b := b) hs
  have mm := fun D hD => mem_movs (e := e) (b := b) (d := D) hs (Nat.le_refl _) hD
  generalize movs (four u e l b) (sett ps) ps.length = mo at *
  obtain ⟨j, dr, j0, j1⟩ := gDrawn_ex ns hn (a + 1 + k) (mo.length : Int) (by omega) (by omega)
  obtain ⟨D, ix, hD⟩ := ix_mem (ds := mo) j0 j1 (by omega)
  obtain ⟨⟨qs, t⟩, nd, _⟩ := mm D hD
  exact ⟨D, qs, _, t, fun acc x6 hl => dm_in (x := x6) gl (len_list mo) dr ix nd (acc := acc) hl t.lb (noL_sett qs)⟩
theorem loopD_nx {ga : PyData → Rho → Option Rho} {F : Rho → Option Out} {d : PyData} {ds : List PyData} {ρ ρ1 ρ2 : Rho} (h1 : ga d ρ = some ρ1) (h2 : F ρ1 = some (.nx ρ2)) : loopD ga F (d :: ds) ρ = loopD ga F ds ρ2 := by
  show (ga d ρ).bind _ = _
  rw [h1, Option.bind_some, h2]
  rfl
theorem dm_loop (h : okN u e l b = true) {ns : List Int} (hn : ns.length < 1000000) {a : Int} (ha : 0 ≤ a) (ds : List PyData) : ∀ (ps : List (Int × Int)) (acc : List PyData) (x5 x6 : Option PyData), okS u l ps = true → (∀ d ∈ ds, ∃ k : Int, d = .int k ∧ 0 ≤ k) → acc.length + ds.length < 1000 →
    ∃ ms qs y5 y6, loopD (asgN 5) bLDrawnMoves1.1 ds [some (scr ns), some (.int a), some (four u e l b), some (sett ps), some (.list acc), x5, x6] = some (.nx [some (scr ns), some (.int a), some (four u e l b), some (sett qs), some (.list (acc ++ ms)), y5, y6]) ∧ Path u e l b ps ms qs ∧ ms.length = ds.length := by
  induction ds with
  | nil => exact fun ps acc x5 x6 hs _ _ => ⟨[], ps, x5, x6, by rw [List.append_nil]; rfl, .nil _, rfl⟩
  | cons d ds ih =>
    intro ps acc x5 x6 hs hd hl
    obtain ⟨k, rfl, hk⟩ := hd d List.mem_cons_self
    obtain ⟨D, qs, X, t, st⟩ := dm_step h hn ha hk hs
    rw [List.length_cons] at hl
    have st := st acc x6 (by omega)
    obtain ⟨ms, rs, y5, y6, lp, pa, le⟩ := ih qs (acc ++ [D]) (some (.int k)) X (t.bm _ rfl).2 (fun c hc => hd c (List.mem_cons_of_mem _ hc)) (by rw [List.length_append]; simp only [List.length_cons, List.length_nil]; omega)
    refine ⟨D :: ms, rs, y5, y6, ?_, .cons t pa, by rw [List.length_cons, List.length_cons, le]⟩
    rw [List.append_assoc, List.singleton_append] at lp
    exact (loopD_nx rfl st).trans lp
theorem dm_core {S M T T' : PyData} {a k9 : Int} {RR ms : List PyData} {y5 y6 : Option PyData} (dr : gDrawn [S, .int a, .int 9] = some (.int k9)) (rg : rng1 [.int k9] = some RR) (lp : loopD (asgN 5) bLDrawnMoves1.1 RR [some S, some (.int a), some M, some T, some (.list []), none, none] = some (.nx [some S, some (.int a), some M, some T', some (.list ms), y5, y6])) : gLDrawnMoves [S, .int a, M, T] = some (.tuple [.list ms, T']) := by
  refine body_rt rfl ?_
  show bLDrawnMoves.1 [some S, some (.int a), some M, some T, none, none, none] = _
  simp only [bLDrawnMoves]
  have key : ∀ {Y : Rho → Option Out} {d : PyData}, Y [some S, some (.int a), some M, some T, some (.list []), none, none] = some (.rt d) → newS 4 (lstD nilA) Y [some S, some (.int a), some M, some T, none, none, none] = some (.rt d) := fun {Y d} hy => by
    have l8 : 4 < [some S, some (.int a), some M, some T, none, none, none].length := by simp
    simp only [newS, seqS, ifS, ifD, ifX, andB, orB, notB, tst, op2, chn, calD, tupD, lstD, consA, nilA, lkp, cst, retD, drpS, asgS, asgN, nxtS, nxX, orX, nevX, nevS, asB, List.getElem?_cons_zero, List.getElem?_cons_succ, Option.join_some, Option.bind_some, Option.bind_none, Option.map_some, Option.map_none, List.set_cons_succ, List.set_cons_zero, Bool.not_true, Bool.not_false, Bool.false_eq_true, if_true, if_false, few_nil, hy]
    rw [if_pos l8]
  refine key ?_
  refine (seq_nx (ρ1 := [some S, some (.int a), some M, some T', some (.list ms), y5, y6]) ?_).trans ?_
  · simp only [forS, seqS, ifS, ifD, ifX, andB, orB, notB, tst, op2, chn, calD, tupD, lstD, consA, nilA, lkp, cst, retD, drpS, asgS, asgN, nxtS, nxX, orX, nevX, nevS, asB, List.getElem?_cons_zero, List.getElem?_cons_succ, Option.join_some, Option.bind_some, Option.bind_none, Option.map_some, Option.map_none, List.set_cons_succ, List.set_cons_zero, Bool.not_true, Bool.not_false, Bool.false_eq_true, if_true, if_false, brw, hid, okB, mutS, extD, appD, dr, rg]
    exact lp
  refine fin_rt ?_
  simp only [seqS, ifS, ifD, ifX, andB, orB, notB, tst, op2, chn, calD, tupD, lstD, consA, nilA, lkp, cst, retD, drpS, asgS, asgN, nxtS, nxX, orX, nevX, nevS, asB, List.getElem?_cons_zero, List.getElem?_cons_succ, Option.join_some, Option.bind_some, Option.bind_none, Option.map_some, Option.map_none, List.set_cons_succ, List.set_cons_zero, Bool.not_true, Bool.not_false, Bool.false_eq_true, if_true, if_false, fw2]
theorem gLDM_eq (h : okN u e l b = true) {ns : List Int} (hn : ns.length < 1000000) {ps : List (Int × Int)} (hs : okS u l ps = true) : ∃ ms qs, gLDrawnMoves [scr ns, .int 40, four u e l b, sett ps] = some (.tuple [.list ms, sett qs]) ∧ Path u e l b ps ms qs ∧ ms.length < 9 := by
  obtain ⟨k9, dr, k0, k1⟩ := gDrawn_ex ns hn 40 9 (by omega) (by omega)
  have rg : rng1 [.int k9] = some (rngL 0 k9.toNat) := rng1_eq (by omega) (by omega)
  have hr := rngL_len k9.toNat
  obtain ⟨ms, qs, y5, y6, lp, pa, le⟩ := dm_loop h hn (a := 40) (by omega) (rngL 0 k9.toNat) ps [] none none hs (fun d hd => by
    obtain ⟨k, hk, rfl⟩ := List.mem_map.mp hd
    exact ⟨_, rfl, by omega⟩) (by rw [hr]; simp; omega)
  exact ⟨ms, qs, dm_core dr rg lp, pa, by omega⟩
noncomputable def decks5 : List PyData := [.str "upper", .str "lower", .str "side", .none, .int 0]
noncomputable def ways8 : List PyData := [.int 1, .int (-1), .int 0, .int 2, .int (-2), .bool true, .none, .str "1"]
theorem dk_facts {K : PyData} (h : K ∈ decks5) : (∃ k, K = deck k) ∨ dIn true K (.tuple [.str "upper", .str "lower"]) = some (.bool true) := by
  simp only [decks5, List.mem_cons, List.not_mem_nil, or_false] at h
  rcases h with rfl | rfl | rfl | rfl | rfl
  · exact .inl ⟨false, rfl⟩
  · exact .inl ⟨true, rfl⟩
  · exact .inr (by kernel_rfl)
  · exact .inr (by kernel_rfl)
  · exact .inr (by kernel_rfl)
theorem wy_facts {Z : PyData} (h : Z ∈ ways8) : ∃ Zb N B M, gIsWhole [Z, .int (-1), .int 1] = some (.bool Zb) ∧ dNe Z (.int 0) = some (.bool N) ∧ isiO "bool" Z = some (.bool B) ∧ (B = false → dIn true Z (.tuple [.int 1, .int (-1)]) = some (.bool M)) ∧ ((∃ c, Z = .int c ∧ (c = 1 ∨ c = -1)) ∨ (Zb && N) = false ∧ (!B && !M) = false) := by
  simp only [ways8, List.mem_cons, List.not_mem_nil, or_false] at h
  rcases h with rfl | rfl | rfl | rfl | rfl | rfl | rfl | rfl
  · exact ⟨true, true, false, false, by kernel_rfl, by kernel_rfl, rfl, fun _ => by kernel_rfl, .inl ⟨1, rfl, .inl rfl⟩⟩
  · exact ⟨true, true, false, false, by kernel_rfl, by kernel_rfl, rfl, fun _ => by kernel_rfl, .inl ⟨-1, rfl, .inr rfl⟩⟩
  · exact ⟨true, false, false, true, by kernel_rfl, by kernel_rfl, rfl, fun _ => by kernel_rfl, .inr ⟨rfl, rfl⟩⟩
  · exact ⟨false, true, false, true, by kernel_rfl, by kernel_rfl, rfl, fun _ => by kernel_rfl, .inr ⟨rfl, rfl⟩⟩
  · exact ⟨false, true, false, true, by kernel_rfl, by kernel_rfl, rfl, fun _ => by kernel_rfl, .inr ⟨rfl, rfl⟩⟩
  · exact ⟨false, true, true, true, by kernel_rfl, by kernel_rfl, rfl, fun z => (by cases z), .inr ⟨rfl, rfl⟩⟩
  · exact ⟨false, true, false, true, by kernel_rfl, by kernel_rfl, rfl, fun _ => by kernel_rfl, .inr ⟨rfl, rfl⟩⟩
  · exact ⟨false, true, false, true, by kernel_rfl, by kernel_rfl, rfl, fun _ => by kernel_rfl, .inr ⟨rfl, rfl⟩⟩
theorem th_far {ps : List (Int × Int)} {i : Int} (hi : ¬ (0 ≤ i ∧ i < ps.length)) (y z : PyData) : Th u e l b ps (.tuple [.int i, y, z]) none := by
  refine th_x ?_ (.inl ⟨i, rfl, hi⟩)
  rw [gIsWhole_int]
  by_cases q : 0 ≤ i
  · rw [decide_eq_true q, decide_eq_false (by omega)]; rfl
  · rw [decide_eq_false q]; rfl
theorem th3 {ps : List (Int × Int)} (hs : okS u l ps = true) (i : Int) {K Z : PyData} (hK : K ∈ decks5) (hZ : Z ∈ ways8) : ∃ o, Th u e l b ps (.tuple [.int i, K, Z]) o := by
  by_cases hi : 0 ≤ i ∧ i < ps.length
  · obtain ⟨r, rfl⟩ : ∃ r : Nat, i = (r : Int) := ⟨i.toNat, by omega⟩
    have hr : r < ps.length := by omega
    have hp : ps[r]? = some ps[r] := List.getElem?_eq_getElem hr
    obtain ⟨Zb, N, B, M, z1, z2, z3, z4, z5⟩ := wy_facts hZ
    rcases dk_facts hK with ⟨k, rfl⟩ | hk
    · rcases z5 with ⟨c, rfl, hc⟩ | ⟨z5, z6⟩
      · exact ⟨_, th_mv hs hp k hc⟩
      · exact ⟨none, th_yz hr (Y := true) (dk_in k) z1 z2 z3 z4 (by rw [Bool.true_and]; exact z5) (by rw [Bool.true_and]; exact z6)⟩
    · exact ⟨none, th_yz hr (Y := false) hk z1 z2 z3 z4 rfl rfl⟩
  · exact ⟨none, th_far hi K Z⟩
end
end Rods

end
section
set_option Elab.async false
set_option linter.all false
set_option maxRecDepth 100000
set_option maxHeartbeats 4000000
namespace Rods
open PySem L2 BX
open PyProof.Rows hiding St

theorem ne_self {d : PyData} (h : okD d = true) : dNe d d = some (.bool false) := by
  have hc : d.canLay0 = true := by simp only [okD, Bool.and_eq_true] at h; exact h.1
  unfold dNe
  rw [if_pos ⟨h, h⟩, SeqAt.eqv_refl d hc]
  rfl
theorem ne3 : dNe (rfd 3) (rfd 3) = some (.bool false) := by kernel_rfl
theorem rng4 : rng1 [.int 4] = some [.int 0, .int 1, .int 2, .int 3] := rfl
theorem rep0 : dRepL (.list [.tuple [.str "refused", .int 0]]) (.int 4) = some (.list [rfd 0, rfd 0, rfd 0, rfd 0]) := rfl
theorem rep1 : dRepL (.list [.tuple [.str "refused", .int 1]]) (.int 4) = some (.list [rfd 1, rfd 1, rfd 1, rfd 1]) := rfl
theorem eq0 : dEq (.list [rfd 0, rfd 0, rfd 0, rfd 0]) (.list [rfd 0, rfd 0, rfd 0, rfd 0]) = some (.bool true) := by kernel_rfl
theorem ne1 : dNe (.list [rfd 1, rfd 1, rfd 1, rfd 1]) (.list [rfd 1, rfd 1, rfd 1, rfd 1]) = some (.bool false) := by kernel_rfl
section
variable {u e l b : Int}
theorem in1 (H : allN = true) (h : okN u e l b = true) {ps : List (Int × Int)} (hs : okS u l ps = true) {S D : PyData} {o : Option (List (Int × Int))} (t : Th u e l b ps D o) {x3 x4 x5 x6 x7 x8 x9 x10 x11 x12 x13 x14 : Option PyData} : bLaw1.1 [some S, some (four u e l b), some (sett ps), x3, x4, x5, x6, x7, some D, x9, x10, x11, x12, x13, x14] = some (.nx [some S, some (four u e l b), some (sett ps), x3, x4, x5, x6, x7, some D, some (oD o), x10, x11, x12, x13, x14]) := by
  have lb := t.lb
  have g0 := told0 (isMove_ok (chk_ok H h hs).1 t.cm)
  have nn := notN_oD o
  cases o with
  | none =>
    obtain ⟨m1, m2⟩ := moved_no (chk_ok H h hs).1 (chk_ok H h hs).2 t.cm
    have g1 := told1x m1 m2 mem_NoMove ref_NoMove
    have nb : dNe (.bool false) (.bool false) = some (.bool false) := by kernel_rfl
    have ii : dIsN .none .none = some (.bool true) := rfl
    generalize sett ps = T at *
    simp only [oD, Option.isSome_none] at lb g0 nn ⊢
    simp only [bLaw1, seqS, ifS, ifD, ifX, andB, orB, notB, tst, op2, chn, calD, tupD, lstD, consA, nilA, lkp, cst, retD, drpS, asgS, asgN, nxtS, nxX, orX, nevX, nevS, asB, List.getElem?_cons_zero, List.getElem?_cons_succ, Option.join_some, Option.bind_some, Option.bind_none, Option.map_some, Option.map_none, List.set_cons_succ, List.set_cons_zero, Bool.not_true, Bool.not_false, Bool.false_eq_true, if_true, if_false, lb, g0, nn, nb, g1, ii, ne3]
  | some qs =>
    have g1 := told1 (th_moved H h hs t)
    have nb : dNe (.bool true) (.bool true) = some (.bool false) := by kernel_rfl
    have ii : dIsN (sett qs) .none = some (.bool false) := rfl
    have nq : dNe (sett qs) (sett qs) = some (.bool false) := by rw [ne_sett]; simp
    simp only [oD, Option.isSome_some] at lb g0 nn ⊢
    generalize sett ps = T at *
    generalize sett qs = Q at *
    simp only [bLaw1, seqS, ifS, ifD, ifX, andB, orB, notB, tst, op2, chn, calD, tupD, lstD, consA, nilA, lkp, cst, retD, drpS, asgS, asgN, nxtS, nxX, orX, nevX, nevS, asB, List.getElem?_cons_zero, List.getElem?_cons_succ, Option.join_some, Option.bind_some, Option.bind_none, Option.map_some, Option.map_none, List.set_cons_succ, List.set_cons_zero, Bool.not_true, Bool.not_false, Bool.false_eq_true, if_true, if_false, lb, g0, nn, nb, g1, ii, nq]
theorem th_loop (H : allN = true) (h : okN u e l b = true) {ps : List (Int × Int)} (hs : okS u l ps = true) {S : PyData} {x3 x4 x5 x6 x7 x10 x11 x12 x13 x14 : Option PyData} (ds : List PyData) : ∀ (x8 x9 : Option PyData), (∀ d ∈ ds, ∃ o, Th u e l b ps d o) → ∃ y8 y9, loopD (asgN 8) bLaw1.1 ds [some S, some (four u e l b), some (sett ps), x3, x4, x5, x6, x7, x8, x9, x10, x11, x12, x13, x14] = some (.nx [some S, some (four u e l b), some (sett ps), x3, x4, x5, x6, x7, y8, y9, x10, x11, x12, x13, x14]) := by
  induction ds with
  | nil => exact fun x8 x9 _ => ⟨x8, x9, rfl⟩
  | cons d ds ih =>
    intro x8 x9 hd
    obtain ⟨o, t⟩ := hd d List.mem_cons_self
    have s1 := in1 H h hs (S := S) t (x3 := x3) (x4 := x4) (x5 := x5) (x6 := x6) (x7 := x7) (x10 := x10) (x11 := x11) (x12 := x12) (x13 := x13) (x14 := x14) (x8 := x8) (x9 := x9)
    obtain ⟨y8, y9, hy⟩ := ih (some d) (some (oD o)) fun c hc => hd c (List.mem_cons_of_mem _ hc)
    exact ⟨y8, y9, (loopD_nx rfl s1).trans hy⟩
end
theorem law_core {S M T T' K Z MS BD M3 L5 B1 B2 B3 B4 : PyData} {DU X1 X2 X3 X4 X5 : List PyData} {rr k n nm k5 k6 k8 k4 : Int} {y8 y9 : Option PyData}
    (d0 : gManner [S, .int 0] = some M) (d1 : gSet [S, .int 10, M, .int 4] = some T) (du : gLMoves [M, T] = some (.list DU)) (t3 : gLTold [.int 3, M, T, .none] = some (.list DU)) (nd : dNe (.list DU) (.list DU) = some (.bool false))
    (d2 : gDrawn [S, .int 30, .int 6] = some (.int k6)) (hrr : rr = k6 - 1) (d3 : gDrawn [S, .int 31, .int 5] = some (.int k5)) (ix5 : dIx (.list decks5) (.int k5) = some K) (d4 : gDrawn [S, .int 32, .int 8] = some (.int k8)) (ix8 : dIx (.list ways8) (.int k8) = some Z)
    (al1 : dAdd (.list DU) (.list [.tuple [.int rr, K, Z], .tuple [.int rr, .str "lower", Z], .tuple [.int 0, K, .int 1], .tuple [.bool true, .str "lower", .int 1]]) = some (.list X1)) (al2 : dAdd (.list X1) (.list [.tuple [.int 0, .str "lower"], .list [.int 0, .str "lower", .int 1], .none, .tuple [.int 0, .str "lower", .int 1, .int 1]]) = some (.list X2)) (al3 : dAdd (.list X2) (.list [.tuple [.int (-1), .str "lower", .int 1], .tuple [.int (-1), .str "lower", .int (-1)], .tuple [.int 0, .str "lower", .int 0], .tuple [.int 0, .str "upper", .int 0], .tuple [.int 0, .str "lower", .int (-2)]]) = some (.list X3)) (ln : dLen [T] = some (.int n)) (al4 : dAdd (.list X3) (.list [.tuple [.int n, .str "lower", .int 1], .tuple [.int 0, .str "upper", .int (-1)], .tuple [.int 0, .str "lower", .int (-1)]]) = some (.list X4))
    (f1 : loopD (asgN 8) bLaw1.1 X4 [some S, some M, some T, some (.list DU), some (.int rr), some K, some Z, some (.list X3), none, none, none, none, none, none, none] = some (.nx [some S, some M, some T, some (.list DU), some (.int rr), some K, some Z, some (.list X3), y8, y9, none, none, none, none, none]))
    (dm : gLDrawnMoves [S, .int 40, M, T] = some (.tuple [MS, T'])) (t2a : gLTold [.int 2, M, T, MS] = some T') (nt' : dNe T' T' = some (.bool false)) (t2b : gLTold [.int 2, M, T, .list []] = some T) (nt : dNe T T = some (.bool false))
    (lm : dLen [MS] = some (.int nm)) (d5 : gDrawn [S, .int 50, .int (nm + 1)] = some (.int k)) (sl1 : dSlL MS none (some k) = some B1) (sl2 : dSlL MS (some k) none = some B2) (ad1 : dAdd B1 (.list [.tuple [.int 9, .str "lower", .int 1]]) = some B3) (ad2 : dAdd B3 B2 = some B4) (t2c : gLTold [.int 2, M, T, B4] = some (rfd 3))
    (lo : dListOf [T] = some L5) (ad5 : dAdd T (.tuple [.tuple [.int 0, .int 13]]) = some (.tuple X5)) (d6 : gDrawn [S, .int 51, .int 4] = some (.int k4)) (ix4 : dIx (.list [.none, .tuple [], L5, .tuple X5]) (.int k4) = some BD)
    (p0 : gLTold [.int 0, M, BD, .list []] = some (rfd 1)) (p1 : gLTold [.int 1, M, BD, .list []] = some (rfd 1)) (p2 : gLTold [.int 2, M, BD, .list []] = some (rfd 1)) (p3 : gLTold [.int 3, M, BD, .list []] = some (rfd 1))
    (slM : dSlA M none (some 3) = some M3) (q0 : gLTold [.int 0, M3, BD, .list []] = some (rfd 0)) (q1 : gLTold [.int 1, M3, BD, .list []] = some (rfd 0)) (q2 : gLTold [.int 2, M3, BD, .list []] = some (rfd 0)) (q3 : gLTold [.int 3, M3, BD, .list []] = some (rfd 0)) :
    bLaw.1 [some S, none, none, none, none, none, none, none, none, none, none, none, none, none, none] = some (.rt (.bool true)) := by
  have s1 : dSub (.int k6) (.int 1) = some (.int rr) := by rw [hrr]; rfl
  have ng2 : dNeg (.int 2) = some (.int (-2)) := rfl
  have an : dAdd (.int nm) (.int 1) = some (.int (nm + 1)) := rfl
  have ix5' : dIx (.list [.str "upper", .str "lower", .str "side", .none, .int 0]) (.int k5) = some K := ix5
  have ix8' : dIx (.list [.int 1, .int (-1), .int 0, .int 2, .int (-2), .bool true, .none, .str "1"]) (.int k8) = some Z := ix8
  simp only [bLaw]
  refine (seq_nx (ρ1 := [some S, some M, none, none, none, none, none, none, none, none, none, none, none, none, none]) ?_).trans ?_
  · simp only [seqS, ifS, ifD, ifX, andB, orB, notB, tst, op2, chn, calD, tupD, lstD, consA, nilA, lkp, cst, retD, drpS, asgS, asgN, nxtS, nxX, orX, nevX, nevS, asB, List.getElem?_cons_zero, List.getElem?_cons_succ, Option.join_some, Option.bind_some, Option.bind_none, Option.map_some, Option.map_none, List.set_cons_succ, List.set_cons_zero, Bool.not_true, Bool.not_false, Bool.false_eq_true, if_true, if_false, d0]
  refine (seq_nx (ρ1 := [some S, some M, some T, none, none, none, none, none, none, none, none, none, none, none, none]) ?_).trans ?_
  · simp only [seqS, ifS, ifD, ifX, andB, orB, notB, tst, op2, chn, calD, tupD, lstD, consA, nilA, lkp, cst, retD, drpS, asgS, asgN, nxtS, nxX, orX, nevX, nevS, asB, List.getElem?_cons_zero, List.getElem?_cons_succ, Option.join_some, Option.bind_some, Option.bind_none, Option.map_some, Option.map_none, List.set_cons_succ, List.set_cons_zero, Bool.not_true, Bool.not_false, Bool.false_eq_true, if_true, if_false, d1]
  refine (seq_nx (ρ1 := [some S, some M, some T, some (.list DU), none, none, none, none, none, none, none, none, none, none, none]) ?_).trans ?_
  · simp only [seqS, ifS, ifD, ifX, andB, orB, notB, tst, op2, chn, calD, tupD, lstD, consA, nilA, lkp, cst, retD, drpS, asgS, asgN, nxtS, nxX, orX, nevX, nevS, asB, List.getElem?_cons_zero, List.getElem?_cons_succ, Option.join_some, Option.bind_some, Option.bind_none, Option.map_some, Option.map_none, List.set_cons_succ, List.set_cons_zero, Bool.not_true, Bool.not_false, Bool.false_eq_true, if_true, if_false, du]
  have hDU : items (.list DU) = some DU := rfl
  generalize hdu : PyData.list DU = DUL at *
  refine (seq_nx (ρ1 := [some S, some M, some T, some DUL, none, none, none, none, none, none, none, none, none, none, none]) ?_).trans ?_
  · simp only [seqS, ifS, ifD, ifX, andB, orB, notB, tst, op2, chn, calD, tupD, lstD, consA, nilA, lkp, cst, retD, drpS, asgS, asgN, nxtS, nxX, orX, nevX, nevS, asB, List.getElem?_cons_zero, List.getElem?_cons_succ, Option.join_some, Option.bind_some, Option.bind_none, Option.map_some, Option.map_none, List.set_cons_succ, List.set_cons_zero, Bool.not_true, Bool.not_false, Bool.false_eq_true, if_true, if_false, t3, nd]
  refine (seq_nx (ρ1 := [some S, some M, some T, some DUL, some (.int rr), none, none, none, none, none, none, none, none, none, none]) ?_).trans ?_
  · simp only [seqS, ifS, ifD, ifX, andB, orB, notB, tst, op2, chn, calD, tupD, lstD, consA, nilA, lkp, cst, retD, drpS, asgS, asgN, nxtS, nxX, orX, nevX, nevS, asB, List.getElem?_cons_zero, List.getElem?_cons_succ, Option.join_some, Option.bind_some, Option.bind_none, Option.map_some, Option.map_none, List.set_cons_succ, List.set_cons_zero, Bool.not_true, Bool.not_false, Bool.false_eq_true, if_true, if_false, d2, s1]
  refine (seq_nx (ρ1 := [some S, some M, some T, some DUL, some (.int rr), some K, none, none, none, none, none, none, none, none, none]) ?_).trans ?_
  · simp only [seqS, ifS, ifD, ifX, andB, orB, notB, tst, op2, chn, calD, tupD, lstD, consA, nilA, lkp, cst, retD, drpS, asgS, asgN, nxtS, nxX, orX, nevX, nevS, asB, List.getElem?_cons_zero, List.getElem?_cons_succ, Option.join_some, Option.bind_some, Option.bind_none, Option.map_some, Option.map_none, List.set_cons_succ, List.set_cons_zero, Bool.not_true, Bool.not_false, Bool.false_eq_true, if_true, if_false, d3, ix5']
  refine (seq_nx (ρ1 := [some S, some M, some T, some DUL, some (.int rr), some K, some Z, none, none, none, none, none, none, none, none]) ?_).trans ?_
  · simp only [seqS, ifS, ifD, ifX, andB, orB, notB, tst, op2, chn, calD, tupD, lstD, consA, nilA, lkp, cst, retD, drpS, asgS, asgN, nxtS, nxX, orX, nevX, nevS, asB, List.getElem?_cons_zero, List.getElem?_cons_succ, Option.join_some, Option.bind_some, Option.bind_none, Option.map_some, Option.map_none, List.set_cons_succ, List.set_cons_zero, Bool.not_true, Bool.not_false, Bool.false_eq_true, if_true, if_false, ng1, ng2, fw8, d4, ix8']
  refine (seq_nx (ρ1 := [some S, some M, some T, some DUL, some (.int rr), some K, some Z, some (.list X1), none, none, none, none, none, none, none]) ?_).trans ?_
  · simp only [seqS, ifS, ifD, ifX, andB, orB, notB, tst, op2, chn, calD, tupD, lstD, consA, nilA, lkp, cst, retD, drpS, asgS, asgN, nxtS, nxX, orX, nevX, nevS, asB, List.getElem?_cons_zero, List.getElem?_cons_succ, Option.join_some, Option.bind_some, Option.bind_none, Option.map_some, Option.map_none, List.set_cons_succ, List.set_cons_zero, Bool.not_true, Bool.not_false, Bool.false_eq_true, if_true, if_false, fw3, fw4, al1]
  refine (seq_nx (ρ1 := [some S, some M, some T, some DUL, some (.int rr), some K, some Z, some (.list X2), none, none, none, none, none, none, none]) ?_).trans ?_
  · simp only [seqS, ifS, ifD, ifX, andB, orB, notB, tst, op2, chn, calD, tupD, lstD, consA, nilA, lkp, cst, retD, drpS, asgS, asgN, nxtS, nxX, orX, nevX, nevS, asB, List.getElem?_cons_zero, List.getElem?_cons_succ, Option.join_some, Option.bind_some, Option.bind_none, Option.map_some, Option.map_none, List.set_cons_succ, List.set_cons_zero, Bool.not_true, Bool.not_false, Bool.false_eq_true, if_true, if_false, al2]
  refine (seq_nx (ρ1 := [some S, some M, some T, some DUL, some (.int rr), some K, some Z, some (.list X3), none, none, none, none, none, none, none]) ?_).trans ?_
  · simp only [seqS, ifS, ifD, ifX, andB, orB, notB, tst, op2, chn, calD, tupD, lstD, consA, nilA, lkp, cst, retD, drpS, asgS, asgN, nxtS, nxX, orX, nevX, nevS, asB, List.getElem?_cons_zero, List.getElem?_cons_succ, Option.join_some, Option.bind_some, Option.bind_none, Option.map_some, Option.map_none, List.set_cons_succ, List.set_cons_zero, Bool.not_true, Bool.not_false, Bool.false_eq_true, if_true, if_false, ng1, ng2, fw3, fw5, al3]
  refine (seq_nx (ρ1 := [some S, some M, some T, some DUL, some (.int rr), some K, some Z, some (.list X3), y8, y9, none, none, none, none, none]) ?_).trans ?_
  · simp only [forS, itS, seqS, ifS, ifD, ifX, andB, orB, notB, tst, op2, chn, calD, tupD, lstD, consA, nilA, lkp, cst, retD, drpS, asgS, asgN, nxtS, nxX, orX, nevX, nevS, asB, List.getElem?_cons_zero, List.getElem?_cons_succ, Option.join_some, Option.bind_some, Option.bind_none, Option.map_some, Option.map_none, List.set_cons_succ, List.set_cons_zero, Bool.not_true, Bool.not_false, Bool.false_eq_true, if_true, if_false, ln, ng1, fw3, al4]
    exact f1
  have ga : ∀ ρ : Rho, (asgT 2 (asgCons (asgN 10) (asgCons (asgN 11) asgNil))) (.tuple [MS, T']) ρ = some ((ρ.set 10 (some MS)).set 11 (some T')) := fun ρ => rfl
  generalize PyData.tuple [MS, T'] = P2 at *
  refine (seq_nx (ρ1 := [some S, some M, some T, some DUL, some (.int rr), some K, some Z, some (.list X3), y8, y9, some MS, some T', none, none, none]) ?_).trans ?_
  · simp only [seqS, ifS, ifD, ifX, andB, orB, notB, tst, op2, chn, calD, tupD, lstD, consA, nilA, lkp, cst, retD, drpS, asgS, asgN, nxtS, nxX, orX, nevX, nevS, asB, List.getElem?_cons_zero, List.getElem?_cons_succ, Option.join_some, Option.bind_some, Option.bind_none, Option.map_some, Option.map_none, List.set_cons_succ, List.set_cons_zero, Bool.not_true, Bool.not_false, Bool.false_eq_true, if_true, if_false, dm, ga]
  refine (seq_nx (ρ1 := [some S, some M, some T, some DUL, some (.int rr), some K, some Z, some (.list X3), y8, y9, some MS, some T', none, none, none]) ?_).trans ?_
  · simp only [seqS, ifS, ifD, ifX, andB, orB, notB, tst, op2, chn, calD, tupD, lstD, consA, nilA, lkp, cst, retD, drpS, asgS, asgN, nxtS, nxX, orX, nevX, nevS, asB, List.getElem?_cons_zero, List.getElem?_cons_succ, Option.join_some, Option.bind_some, Option.bind_none, Option.map_some, Option.map_none, List.set_cons_succ, List.set_cons_zero, Bool.not_true, Bool.not_false, Bool.false_eq_true, if_true, if_false, t2a, nt', few_nil, t2b, nt]
  refine (seq_nx (ρ1 := [some S, some M, some T, some DUL, some (.int rr), some K, some Z, some (.list X3), y8, y9, some MS, some T', some (.int k), none, none]) ?_).trans ?_
  · simp only [seqS, ifS, ifD, ifX, andB, orB, notB, tst, op2, chn, calD, tupD, lstD, consA, nilA, lkp, cst, retD, drpS, asgS, asgN, nxtS, nxX, orX, nevX, nevS, asB, List.getElem?_cons_zero, List.getElem?_cons_succ, Option.join_some, Option.bind_some, Option.bind_none, Option.map_some, Option.map_none, List.set_cons_succ, List.set_cons_zero, Bool.not_true, Bool.not_false, Bool.false_eq_true, if_true, if_false, lm, an, d5]
  refine (seq_nx (ρ1 := [some S, some M, some T, some DUL, some (.int rr), some K, some Z, some (.list X3), y8, y9, some MS, some T', some (.int k), none, none]) ?_).trans ?_
  · simp only [seqS, ifS, ifD, ifX, andB, orB, notB, tst, op2, chn, calD, tupD, lstD, consA, nilA, lkp, cst, retD, drpS, asgS, asgN, nxtS, nxX, orX, nevX, nevS, asB, List.getElem?_cons_zero, List.getElem?_cons_succ, Option.join_some, Option.bind_some, Option.bind_none, Option.map_some, Option.map_none, List.set_cons_succ, List.set_cons_zero, Bool.not_true, Bool.not_false, Bool.false_eq_true, if_true, if_false, sllTo, sllFrom, slaTo, slaFrom, inI, sl1, ad1, sl2, ad2, t2c, ne3]
  refine (seq_nx (ρ1 := [some S, some M, some T, some DUL, some (.int rr), some K, some Z, some (.list X3), y8, y9, some MS, some T', some (.int k), some BD, none]) ?_).trans ?_
  · simp only [seqS, ifS, ifD, ifX, andB, orB, notB, tst, op2, chn, calD, tupD, lstD, consA, nilA, lkp, cst, retD, drpS, asgS, asgN, nxtS, nxX, orX, nevX, nevS, asB, List.getElem?_cons_zero, List.getElem?_cons_succ, Option.join_some, Option.bind_some, Option.bind_none, Option.map_some, Option.map_none, List.set_cons_succ, List.set_cons_zero, Bool.not_true, Bool.not_false, Bool.false_eq_true, if_true, if_false, few_nil, lo, ad5, fw4, d6, ix4]
  refine (seq_nx (ρ1 := [some S, some M, some T, some DUL, some (.int rr), some K, some Z, some (.list X3), y8, y9, some MS, some T', some (.int k), some BD, none]) ?_).trans ?_
  · simp only [compD, capR, List.map_cons, List.map_nil, compL, truT, seqS, ifS, ifD, ifX, andB, orB, notB, tst, op2, chn, calD, tupD, lstD, consA, nilA, lkp, cst, retD, drpS, asgS, asgN, nxtS, nxX, orX, nevX, nevS, asB, List.getElem?_cons_zero, List.getElem?_cons_succ, Option.join_some, Option.bind_some, Option.bind_none, Option.map_some, Option.map_none, List.set_cons_succ, List.set_cons_zero, Bool.not_true, Bool.not_false, Bool.false_eq_true, if_true, if_false, few_nil, rng4, fw4, p0, p1, p2, p3, rep1, ne1]
  refine (seq_nx (ρ1 := [some S, some M, some T, some DUL, some (.int rr), some K, some Z, some (.list X3), y8, y9, some MS, some T', some (.int k), some BD, some (.list [rfd 0, rfd 0, rfd 0, rfd 0])]) ?_).trans ?_
  · simp only [compD, capR, List.map_cons, List.map_nil, compL, truT, seqS, ifS, ifD, ifX, andB, orB, notB, tst, op2, chn, calD, tupD, lstD, consA, nilA, lkp, cst, retD, drpS, asgS, asgN, nxtS, nxX, orX, nevX, nevS, asB, List.getElem?_cons_zero, List.getElem?_cons_succ, Option.join_some, Option.bind_some, Option.bind_none, Option.map_some, Option.map_none, List.set_cons_succ, List.set_cons_zero, Bool.not_true, Bool.not_false, Bool.false_eq_true, if_true, if_false, few_nil, rng4, fw4, slaTo, inI, slM, q0, q1, q2, q3]
  simp only [seqS, ifS, ifD, ifX, andB, orB, notB, tst, op2, chn, calD, tupD, lstD, consA, nilA, lkp, cst, retD, drpS, asgS, asgN, nxtS, nxX, orX, nevX, nevS, asB, List.getElem?_cons_zero, List.getElem?_cons_succ, Option.join_some, Option.bind_some, Option.bind_none, Option.map_some, Option.map_none, List.set_cons_succ, List.set_cons_zero, Bool.not_true, Bool.not_false, Bool.false_eq_true, if_true, if_false, rep0, eq0]
end Rods

end
section
set_option Elab.async false
set_option linter.all false
set_option maxRecDepth 100000
set_option maxHeartbeats 4000000
namespace Rods
open PySem L2 BX
open PyProof.Rows hiding St

theorem noM3 (u e l : Int) : gIsManner [.tuple [.int u, .int e, .int l]] = some (.bool false) := by
  have it : isiO "tuple" (.tuple [.int u, .int e, .int l]) = some (.bool true) := rfl
  have ln : dLen [.tuple [.int u, .int e, .int l]] = some (.int 3) := rfl
  refine body_rt rfl ?_
  show bIsManner.1 [some (.tuple [.int u, .int e, .int l]), none, none, none] = _
  generalize PyData.tuple [.int u, .int e, .int l] = Z at *
  have l4 : dLen [.tuple [.int 3, .int 16, .int 12, .int 16]] = some (.int 4) := rfl
  have n34 : dNe (.int 3) (.int 4) = some (.bool true) := by kernel_rfl
  simp only [bIsManner, seqS, ifS, ifD, ifX, andB, orB, notB, tst, op2, chn, calD, tupD, lstD, consA, nilA, lkp, cst, retD, drpS, asgS, asgN, nxtS, nxX, orX, nevX, nevS, asB, List.getElem?_cons_zero, List.getElem?_cons_succ, Option.join_some, Option.bind_some, Option.bind_none, Option.map_some, Option.map_none, List.set_cons_succ, List.set_cons_zero, Bool.not_true, Bool.not_false, Bool.false_eq_true, if_true, if_false, it, ln, l4, n34]
theorem dw_in : (PyData.str "lower" ∈ decks5) ∧ (PyData.str "upper" ∈ decks5) ∧ (PyData.int 1 ∈ ways8) ∧ (PyData.int (-1) ∈ ways8) ∧ (PyData.int 0 ∈ ways8) ∧ (PyData.int (-2) ∈ ways8) := by
  simp [decks5, ways8]
section
variable {u e l b : Int}
theorem things_th {ps : List (Int × Int)} (hs : okS u l ps = true) {K Z : PyData} (hK : K ∈ decks5) (hZ : Z ∈ ways8) (rr n : Int) : ∀ d ∈ [.tuple [.int rr, K, Z], .tuple [.int rr, .str "lower", Z], .tuple [.int 0, K, .int 1], .tuple [.bool true, .str "lower", .int 1]] ++ [.tuple [.int 0, .str "lower"], .list [.int 0, .str "lower", .int 1], .none, .tuple [.int 0, .str "lower", .int 1, .int 1]] ++ [.tuple [.int (-1), .str "lower", .int 1], .tuple [.int (-1), .str "lower", .int (-1)], .tuple [.int 0, .str "lower", .int 0], .tuple [.int 0, .str "upper", .int 0], .tuple [.int 0, .str "lower", .int (-2)]] ++ [.tuple [.int n, .str "lower", .int 1], .tuple [.int 0, .str "upper", .int (-1)], .tuple [.int 0, .str "lower", .int (-1)]], ∃ o, Th u e l b ps d o := fun d hd => by
  obtain ⟨w1, w2, w3, w4, w5, w6⟩ := dw_in
  simp only [List.cons_append, List.nil_append, List.mem_cons, List.not_mem_nil, or_false] at hd
  rcases hd with rfl | rfl | rfl | rfl | rfl | rfl | rfl | rfl | rfl | rfl | rfl | rfl | rfl | rfl | rfl | rfl
  · exact th3 hs rr hK hZ
  · exact th3 hs rr w1 hZ
  · exact th3 hs 0 hK w3
  · exact ⟨none, th_x (gIsWhole_at (.bool true) rfl _ _) (.inr rfl)⟩
  · exact ⟨none, th_shape (.inr ⟨rfl, 2, rfl, by kernel_rfl⟩)⟩
  · exact ⟨none, th_shape (.inl rfl)⟩
  · exact ⟨none, th_shape (.inl rfl)⟩
  · exact ⟨none, th_shape (.inr ⟨rfl, 4, rfl, by kernel_rfl⟩)⟩
  · exact th3 hs (-1) w1 w3
  · exact th3 hs (-1) w1 w4
  · exact th3 hs 0 w1 w5
  · exact th3 hs 0 w2 w5
  · exact th3 hs 0 w1 w6
  · exact th3 hs n w1 w3
  · exact th3 hs 0 w2 w4
  · exact th3 hs 0 w1 w4
theorem bad_in {ps : List (Int × Int)} (h : okN u e l b = true) {d : PyData} (hd : d ∈ [PyData.none, .tuple [], .list (ps.map pr), .tuple ((ps ++ [(0, 13)]).map pr)]) : noD d = true ∧ setB u l d = false := by
  obtain ⟨a1, a2, a3, a4, a5, a6, a7, a8, a9, a10⟩ := split_N h
  simp only [List.mem_cons, List.not_mem_nil, or_false] at hd
  rcases hd with rfl | rfl | rfl | rfl
  · exact ⟨rfl, rfl⟩
  · exact ⟨rfl, rfl⟩
  · refine ⟨?_, rfl⟩
    have := noD_sett ps
    simpa [sett, noD] using this
  · refine ⟨noD_sett (ps ++ [(0, 13)]), ?_⟩
    show setB u l (sett (ps ++ [(0, 13)])) = false
    rw [setB_sett]
    have q : okP u l (0, 13) = false := by simp [okP]; omega
    unfold okS
    rw [List.all_append]
    simp [q]
theorem slL_take (ms : List PyData) (k : Nat) : dSlL (.list ms) none (some (k : Int)) = some (.list (ms.take k)) := by
  show some (PyData.list (cutT _ none (some (k : Int)))) = _
  rw [cutTo]
theorem slL_drop (ms : List PyData) (k : Nat) : dSlL (.list ms) (some (k : Int)) none = some (.list (ms.drop k)) := by
  show some (PyData.list (cutT _ (some (k : Int)) none)) = _
  rw [cutFrom]
theorem okD_movs {ps : List (Int × Int)} (hs : okS u l ps = true) : okD (.list (movs (four u e l b) (sett ps) ps.length)) = true :=
  shl_ok (n := 3) (shl_lst.mpr fun d hd => (mem_movs hs (Nat.le_refl _) hd).2.2) (by omega)
theorem got_no {m s t : PyData} {i : Int} {c : Str} (g : gChkSet [m, s] = none) (x : tChkSet [m, s] = some c) (hc : c ∈ errNames) (hr : gLRefused [excD c] = some (rfd i)) : gLTold [.int 0, m, s, t] = some (rfd i) ∧ gLTold [.int 1, m, s, t] = some (rfd i) ∧ gLTold [.int 2, m, s, t] = some (rfd i) ∧ gLTold [.int 3, m, s, t] = some (rfd i) := by
  obtain ⟨a1, a2⟩ := move_c (t := t) g x
  obtain ⟨b1, b2⟩ := moved_c (t := t) g x
  obtain ⟨c1, c2⟩ := run_c (t := t) g x
  obtain ⟨d1, d2⟩ := all_c g x
  exact ⟨told0x a1 a2 hc hr, told1x b1 b2 hc hr, told2x c1 c2 hc hr, told3x d1 d2 hc hr⟩
theorem run_split (H : allN = true) (h : okN u e l b = true) {ps qs : List (Int × Int)} {ms : List PyData} (hs : okS u l ps = true) (pa : Path u e l b ps ms qs) (k : Nat) : gLTold [.int 2, four u e l b, sett ps, .list (ms.take k ++ .tuple [.int 9, .str "lower", .int 1] :: ms.drop k)] = some (rfd 3) := by
  have pa' : Path u e l b ps (ms.take k ++ ms.drop k) qs := by rw [List.take_append_drop]; exact pa
  obtain ⟨rs, q1, _⟩ := Path.split _ _ pa'
  obtain ⟨_, r4, _⟩ := okS_split (q1.ok hs)
  have t : Th u e l b rs (.tuple [.int 9, .str "lower", .int 1]) none := th_far (by omega) _ _
  obtain ⟨g1, g2⟩ := run_no H h (ns := ms.drop k) hs q1 t
  exact told2x g1 g2 mem_NoMove ref_NoMove
end
theorem gLaw_true (H : allN = true) (ns : List Int) (hn : ns.length < 1000000) : gLaw [scr ns] = some (.bool true) := by
  obtain ⟨u, e, l, b, d0, om⟩ := gManner_ex ns hn 0 (by omega)
  have h := okM_okN om
  obtain ⟨ps, d1, hs⟩ := gSet_ex hn h (at_ := 10) (by omega)
  obtain ⟨h1, h4, hp⟩ := okS_split hs
  obtain ⟨k6, d2, k60, k61⟩ := gDrawn_ex ns hn 30 6 (by omega) (by omega)
  obtain ⟨k5, d3, k50, k51⟩ := gDrawn_ex ns hn 31 5 (by omega) (by omega)
  obtain ⟨k8, d4, k80, k81⟩ := gDrawn_ex ns hn 32 8 (by omega) (by omega)
  obtain ⟨k4, d6, k40, k41⟩ := gDrawn_ex ns hn 51 4 (by omega) (by omega)
  obtain ⟨K, ix5, hK⟩ := ix_mem (ds := decks5) k50 (by simp [decks5]; omega) (by simp [decks5])
  obtain ⟨Z, ix8, hZ⟩ := ix_mem (ds := ways8) k80 (by simp [ways8]; omega) (by simp [ways8])
  obtain ⟨ms, qs, dm, pa, ml⟩ := gLDM_eq h hn hs
  obtain ⟨k, d5, k0, k1⟩ := gDrawn_ex ns hn 50 ((ms.length : Int) + 1) (by omega) (by omega)
  obtain ⟨k, rfl⟩ : ∃ j : Nat, k = (j : Int) := ⟨k.toNat, by omega⟩
  obtain ⟨BD, ix4, hBD⟩ := ix_mem (ds := [PyData.none, .tuple [], .list (ps.map pr), .tuple ((ps ++ [(0, 13)]).map pr)]) k40 (by simp; omega) (by simp)
  obtain ⟨b1, b2⟩ := bad_in h hBD
  obtain ⟨c1, c2⟩ := chk_no H h b1 b2
  have n3 := noM3 u e l
  obtain ⟨p0, p1, p2, p3⟩ := got_no (t := .list []) c1 c2 mem_NoSetting ref_NoSetting
  obtain ⟨q0, q1, q2, q3⟩ := got_no (t := .list []) (gChkSet_noM (d := BD) n3) (tChkSet_noM (d := BD) n3) mem_NoManner ref_NoManner
  have du := gLMoves_eq (e := e) (b := b) hs
  have t3 := told3 (t := .none) (gAllMoves_eq H h hs)
  have nd := ne_self (okD_movs (e := e) (b := b) hs)
  have mm := fun D hD => mem_movs (e := e) (b := b) (d := D) hs (Nat.le_refl _) hD
  have mlen := movs_len (four u e l b) (sett ps) ps.length
  have tr := run_split H h hs pa k
  generalize movs (four u e l b) (sett ps) ps.length = DU at *
  have al1 : dAdd (.list DU) (.list ([.tuple [.int (k6 - 1), K, Z], .tuple [.int (k6 - 1), .str "lower", Z], .tuple [.int 0, K, .int 1], .tuple [.bool true, .str "lower", .int 1]] : List PyData)) = some (.list (DU ++ ([.tuple [.int (k6 - 1), K, Z], .tuple [.int (k6 - 1), .str "lower", Z], .tuple [.int 0, K, .int 1], .tuple [.bool true, .str "lower", .int 1]] : List PyData))) := add_list (by simp; omega)
  have al2 : dAdd (.list (DU ++ ([.tuple [.int (k6 - 1), K, Z], .tuple [.int (k6 - 1), .str "lower", Z], .tuple [.int 0, K, .int 1], .tuple [.bool true, .str "lower", .int 1]] : List PyData))) (.list ([.tuple [.int 0, .str "lower"], .list [.int 0, .str "lower", .int 1], .none, .tuple [.int 0, .str "lower", .int 1, .int 1]] : List PyData)) = some (.list (DU ++ ([.tuple [.int (k6 - 1), K, Z], .tuple [.int (k6 - 1), .str "lower", Z], .tuple [.int 0, K, .int 1], .tuple [.bool true, .str "lower", .int 1]] : List PyData) ++ ([.tuple [.int 0, .str "lower"], .list [.int 0, .str "lower", .int 1], .none, .tuple [.int 0, .str "lower", .int 1, .int 1]] : List PyData))) := add_list (by simp; omega)
  have al3 : dAdd (.list (DU ++ ([.tuple [.int (k6 - 1), K, Z], .tuple [.int (k6 - 1), .str "lower", Z], .tuple [.int 0, K, .int 1], .tuple [.bool true, .str "lower", .int 1]] : List PyData) ++ ([.tuple [.int 0, .str "lower"], .list [.int 0, .str "lower", .int 1], .none, .tuple [.int 0, .str "lower", .int 1, .int 1]] : List PyData))) (.list ([.tuple [.int (-1), .str "lower", .int 1], .tuple [.int (-1), .str "lower", .int (-1)], .tuple [.int 0, .str "lower", .int 0], .tuple [.int 0, .str "upper", .int 0], .tuple [.int 0, .str "lower", .int (-2)]] : List PyData)) = some (.list (DU ++ ([.tuple [.int (k6 - 1), K, Z], .tuple [.int (k6 - 1), .str "lower", Z], .tuple [.int 0, K, .int 1], .tuple [.bool true, .str "lower", .int 1]] : List PyData) ++ ([.tuple [.int 0, .str "lower"], .list [.int 0, .str "lower", .int 1], .none, .tuple [.int 0, .str "lower", .int 1, .int 1]] : List PyData) ++ ([.tuple [.int (-1), .str "lower", .int 1], .tuple [.int (-1), .str "lower", .int (-1)], .tuple [.int 0, .str "lower", .int 0], .tuple [.int 0, .str "upper", .int 0], .tuple [.int 0, .str "lower", .int (-2)]] : List PyData))) := add_list (by simp; omega)
  have al4 : dAdd (.list (DU ++ ([.tuple [.int (k6 - 1), K, Z], .tuple [.int (k6 - 1), .str "lower", Z], .tuple [.int 0, K, .int 1], .tuple [.bool true, .str "lower", .int 1]] : List PyData) ++ ([.tuple [.int 0, .str "lower"], .list [.int 0, .str "lower", .int 1], .none, .tuple [.int 0, .str "lower", .int 1, .int 1]] : List PyData) ++ ([.tuple [.int (-1), .str "lower", .int 1], .tuple [.int (-1), .str "lower", .int (-1)], .tuple [.int 0, .str "lower", .int 0], .tuple [.int 0, .str "upper", .int 0], .tuple [.int 0, .str "lower", .int (-2)]] : List PyData))) (.list ([.tuple [.int (ps.length : Int), .str "lower", .int 1], .tuple [.int 0, .str "upper", .int (-1)], .tuple [.int 0, .str "lower", .int (-1)]] : List PyData)) = some (.list (DU ++ ([.tuple [.int (k6 - 1), K, Z], .tuple [.int (k6 - 1), .str "lower", Z], .tuple [.int 0, K, .int 1], .tuple [.bool true, .str "lower", .int 1]] : List PyData) ++ ([.tuple [.int 0, .str "lower"], .list [.int 0, .str "lower", .int 1], .none, .tuple [.int 0, .str "lower", .int 1, .int 1]] : List PyData) ++ ([.tuple [.int (-1), .str "lower", .int 1], .tuple [.int (-1), .str "lower", .int (-1)], .tuple [.int 0, .str "lower", .int 0], .tuple [.int 0, .str "upper", .int 0], .tuple [.int 0, .str "lower", .int (-2)]] : List PyData) ++ ([.tuple [.int (ps.length : Int), .str "lower", .int 1], .tuple [.int 0, .str "upper", .int (-1)], .tuple [.int 0, .str "lower", .int (-1)]] : List PyData))) := add_list (by simp; omega)
  have hall : ∀ d ∈ DU ++ ([.tuple [.int (k6 - 1), K, Z], .tuple [.int (k6 - 1), .str "lower", Z], .tuple [.int 0, K, .int 1], .tuple [.bool true, .str "lower", .int 1]] : List PyData) ++ ([.tuple [.int 0, .str "lower"], .list [.int 0, .str "lower", .int 1], .none, .tuple [.int 0, .str "lower", .int 1, .int 1]] : List PyData) ++ ([.tuple [.int (-1), .str "lower", .int 1], .tuple [.int (-1), .str "lower", .int (-1)], .tuple [.int 0, .str "lower", .int 0], .tuple [.int 0, .str "upper", .int 0], .tuple [.int 0, .str "lower", .int (-2)]] : List PyData) ++ ([.tuple [.int (ps.length : Int), .str "lower", .int 1], .tuple [.int 0, .str "upper", .int (-1)], .tuple [.int 0, .str "lower", .int (-1)]] : List PyData), ∃ o, Th u e l b ps d o := fun d hd => by
    rw [List.append_assoc, List.append_assoc, List.append_assoc] at hd
    rcases List.mem_append.mp hd with z | z
    · obtain ⟨⟨qs, t⟩, _⟩ := mm d z
      exact ⟨_, t⟩
    · exact things_th hs hK hZ (k6 - 1) (ps.length : Int) d (by rw [List.append_assoc, List.append_assoc]; exact z)
  generalize hX4 : DU ++ ([.tuple [.int (k6 - 1), K, Z], .tuple [.int (k6 - 1), .str "lower", Z], .tuple [.int 0, K, .int 1], .tuple [.bool true, .str "lower", .int 1]] : List PyData) ++ ([.tuple [.int 0, .str "lower"], .list [.int 0, .str "lower", .int 1], .none, .tuple [.int 0, .str "lower", .int 1, .int 1]] : List PyData) ++ ([.tuple [.int (-1), .str "lower", .int 1], .tuple [.int (-1), .str "lower", .int (-1)], .tuple [.int 0, .str "lower", .int 0], .tuple [.int 0, .str "upper", .int 0], .tuple [.int 0, .str "lower", .int (-2)]] : List PyData) ++ ([.tuple [.int (ps.length : Int), .str "lower", .int 1], .tuple [.int 0, .str "upper", .int (-1)], .tuple [.int 0, .str "lower", .int (-1)]] : List PyData) = X4 at *
  generalize hX3 : DU ++ ([.tuple [.int (k6 - 1), K, Z], .tuple [.int (k6 - 1), .str "lower", Z], .tuple [.int 0, K, .int 1], .tuple [.bool true, .str "lower", .int 1]] : List PyData) ++ ([.tuple [.int 0, .str "lower"], .list [.int 0, .str "lower", .int 1], .none, .tuple [.int 0, .str "lower", .int 1, .int 1]] : List PyData) ++ ([.tuple [.int (-1), .str "lower", .int 1], .tuple [.int (-1), .str "lower", .int (-1)], .tuple [.int 0, .str "lower", .int 0], .tuple [.int 0, .str "upper", .int 0], .tuple [.int 0, .str "lower", .int (-2)]] : List PyData) = X3 at *
  obtain ⟨y8, y9, f1⟩ := th_loop H h hs (S := scr ns) (x3 := some (.list DU)) (x4 := some (.int (k6 - 1))) (x5 := some K) (x6 := some Z) (x7 := some (.list X3)) (x10 := none) (x11 := none) (x12 := none) (x13 := none) (x14 := none) X4 none none hall
  have ad1 : dAdd (.list (ms.take k)) (.list [.tuple [.int 9, .str "lower", .int 1]]) = some (.list (ms.take k ++ [.tuple [.int 9, .str "lower", .int 1]])) := add_list (by rw [List.length_take]; simp; omega)
  have ad2 : dAdd (.list (ms.take k ++ [.tuple [.int 9, .str "lower", .int 1]])) (.list (ms.drop k)) = some (.list (ms.take k ++ .tuple [.int 9, .str "lower", .int 1] :: ms.drop k)) := by
    rw [add_list (by rw [List.length_append, List.length_take, List.length_drop]; simp; omega), List.append_assoc, List.singleton_append]
  have ad5 : dAdd (sett ps) (.tuple [.tuple [.int 0, .int 13]]) = some (.tuple ((ps ++ [(0, 13)]).map pr)) := by
    rw [List.map_append]
    exact add_tup (.inr trivial) (by rw [List.length_map]; simp; omega)
  have nt' : dNe (sett qs) (sett qs) = some (.bool false) := by rw [ne_sett]; simp
  have nt : dNe (sett ps) (sett ps) = some (.bool false) := by rw [ne_sett]; simp
  refine body_rt rfl ?_
  show bLaw.1 [some (scr ns), none, none, none, none, none, none, none, none, none, none, none, none, none, none] = _
  exact law_core (y8 := y8) (y9 := y9) d0 d1 du t3 nd d2 rfl d3 ix5 d4 ix8 al1 al2 al3 (len_sett ps) al4 f1 dm (told2 (gRun_eq H h hs pa)) nt' (told2 (gRun_eq H h hs (.nil ps))) nt (len_list ms) d5 (slL_take ms k) (slL_drop ms k) ad1 ad2 tr (L5 := .list (ps.map pr)) rfl ad5 d6 ix4 p0 p1 p2 p3 (M3 := .tuple [.int u, .int e, .int l]) rfl q0 q1 q2 q3
end Rods

end
section
set_option Elab.async false
set_option linter.all false
set_option maxRecDepth 100000
set_option maxHeartbeats 4000000
namespace BX
open PySem L2
open PyProof.Rows hiding St
theorem TopFn.thr {P : Program} {w : World} {K : PySem.W.Frag} {mg : Str → Option Value} {base h : Heap} {x : Str} {st : Stmt} {ps : List Str} {k n : Nat} {g : List PyData → Option Str} (T : TopFn K x st) (X : K.In h) (G : h.Ns mainGlobals mg)
    (pa : PlainArgs x st ps) (ok : ∀ f fd, Fun K x x st f fd → FnOk P w K mg base (CXt P w) k f fd ps (PurX K mg n g)) : ThrC P w K mg base x ps k n g := by
  obtain ⟨f, oc, od, an, kV, doc, pm, cdv, ct, osl, a, l, c, kp⟩ := T
  have F1 := fun_mk (st := st) l c kp
  exact ⟨f, _, ok f _ F1, PySem.W.mg_of X G a, kp, F1.binds pa⟩
theorem TopFn.hdl {P : Program} {w : World} {K : PySem.W.Frag} {mg : Str → Option Value} {base h : Heap} {x : Str} {st : Stmt} {ps : List Str} {k n : Nat} {g : List PyData → Option PyData} (T : TopFn K x st) (X : K.In h) (G : h.Ns mainGlobals mg)
    (pa : PlainArgs x st ps) (ok : ∀ f fd, Fun K x x st f fd → FnH P w K mg base k f fd ps (Pur K n g)) : CalleeH P w K mg base x ps k n g := by
  obtain ⟨f, oc, od, an, kV, doc, pm, cdv, ct, osl, a, l, c, kp⟩ := T
  have F1 := fun_mk (st := st) l c kp
  exact ⟨f, _, ok f _ F1, PySem.W.mg_of X G a, kp, F1.binds pa⟩
end BX
namespace Rods
open PySem L2 BX
open PyProof.Rows hiding St
structure Tops (K : PySem.W.Frag) : Prop where
  isWhole : TopFn K "is_whole" sIsWhole
  rodWorth : TopFn K "rod_worth" sRodWorth
  allRods : TopFn K "all_rods" sAllRods
  hasAll : TopFn K "has_all_digits" sHasAll
  isManner : TopFn K "is_manner" sIsManner
  check : TopFn K "check_manner" sCheck
  isRod : TopFn K "is_rod" sIsRod
  isSet : TopFn K "is_setting" sIsSetting
  chkSet : TopFn K "check_setting" sCheckSetting
  cell : TopFn K "_law_cell" sCell
  drawn : TopFn K "_law_drawn" sDrawn
  manner : TopFn K "_law_manner" sManner
  setting : TopFn K "_law_setting" sSetting
  NamesBeads : TopFn K "names_beads" sNamesBeads
  Pushed : TopFn K "pushed" sPushed
  CanMove : TopFn K "can_move" sCanMove
  IsMove : TopFn K "is_move" sIsMove
  BehindMove : TopFn K "behind_move" sBehindMove
  Moved : TopFn K "moved" sMoved
  AllMoves : TopFn K "all_moves" sAllMoves
  Run : TopFn K "run" sRun
  LRefused : TopFn K "_law_refused" sLRefused
  LTold : TopFn K "_law_told" sLTold
  LBehind : TopFn K "_law_behind" sLBehind
  LMoves : TopFn K "_law_moves" sLMoves
  LDrawnMoves : TopFn K "_law_drawn_moves" sLDrawnMoves
  law : TopFn K "law" sLaw
structure Consts (K : PySem.W.Frag) (mg : Str → Option Value) : Prop where
  b : Bare mg
  least : GC K mg "LEAST_PARTS" (.tuple [.int 0, .int 1, .int 0, .int 2])
  most : GC K mg "MOST_PARTS" (.tuple [.int 3, .int 16, .int 12, .int 16])
  mostRods : GC K mg "MOST_RODS" (.int 4)
  decks : GC K mg "DECKS" (.tuple [.str "upper", .str "lower"])
  ways : GC K mg "WAYS" (.tuple [.int 1, .int (-1)])
  errT : ErrT K mg "BeadError" errNames
theorem pa_isWhole : PlainArgs "is_whole" sIsWhole ["thing", "least", "most"] := fun _ _ _ _ _ _ us hl => by obtain ⟨v0, v1, v2, rfl⟩ := pal3 us hl; rfl
theorem pa_rodWorth : PlainArgs "rod_worth" sRodWorth ["manner", "rod"] := fun _ _ _ _ _ _ us hl => by obtain ⟨v0, v1, rfl⟩ := pal2 us hl; rfl
theorem pa_allRods : PlainArgs "all_rods" sAllRods ["manner"] := fun _ _ _ _ _ _ us hl => by obtain ⟨v0, rfl⟩ := pal1 us hl; rfl
theorem pa_hasAll : PlainArgs "has_all_digits" sHasAll ["manner"] := fun _ _ _ _ _ _ us hl => by obtain ⟨v0, rfl⟩ := pal1 us hl; rfl
theorem pa_isManner : PlainArgs "is_manner" sIsManner ["thing"] := fun _ _ _ _ _ _ us hl => by obtain ⟨v0, rfl⟩ := pal1 us hl; rfl
theorem pa_check : PlainArgs "check_manner" sCheck ["thing"] := fun _ _ _ _ _ _ us hl => by obtain ⟨v0, rfl⟩ := pal1 us hl; rfl
theorem pa_isRod : PlainArgs "is_rod" sIsRod ["manner", "thing"] := fun _ _ _ _ _ _ us hl => by obtain ⟨v0, v1, rfl⟩ := pal2 us hl; rfl
theorem pa_isSet : PlainArgs "is_setting" sIsSetting ["manner", "thing"] := fun _ _ _ _ _ _ us hl => by obtain ⟨v0, v1, rfl⟩ := pal2 us hl; rfl
theorem pa_chkSet : PlainArgs "check_setting" sCheckSetting ["manner", "thing"] := fun _ _ _ _ _ _ us hl => by obtain ⟨v0, v1, rfl⟩ := pal2 us hl; rfl
theorem pa_cell : PlainArgs "_law_cell" sCell ["_law_script", "_law_k"] := fun _ _ _ _ _ _ us hl => by obtain ⟨v0, v1, rfl⟩ := pal2 us hl; rfl
theorem pa_drawn : PlainArgs "_law_drawn" sDrawn ["_law_script", "_law_k", "_law_many"] := fun _ _ _ _ _ _ us hl => by obtain ⟨v0, v1, v2, rfl⟩ := pal3 us hl; rfl
theorem pa_manner : PlainArgs "_law_manner" sManner ["_law_script", "_law_at"] := fun _ _ _ _ _ _ us hl => by obtain ⟨v0, v1, rfl⟩ := pal2 us hl; rfl
theorem pa_setting : PlainArgs "_law_setting" sSetting ["_law_script", "_law_at", "_law_manner_here", "_law_most"] := fun _ _ _ _ _ _ us hl => by obtain ⟨v0, v1, v2, v3, rfl⟩ := pal4 us hl; rfl
theorem pa_NamesBeads : PlainArgs "names_beads" sNamesBeads ["setting", "thing"] := fun _ _ _ _ _ _ us hl => by obtain ⟨v0, v1, rfl⟩ := pal2 us hl; rfl
theorem pa_Pushed : PlainArgs "pushed" sPushed ["rod", "deck", "by"] := fun _ _ _ _ _ _ us hl => by obtain ⟨v0, v1, v2, rfl⟩ := pal3 us hl; rfl
theorem pa_CanMove : PlainArgs "can_move" sCanMove ["manner", "setting", "thing"] := fun _ _ _ _ _ _ us hl => by obtain ⟨v0, v1, v2, rfl⟩ := pal3 us hl; rfl
theorem pa_IsMove : PlainArgs "is_move" sIsMove ["manner", "setting", "thing"] := fun _ _ _ _ _ _ us hl => by obtain ⟨v0, v1, v2, rfl⟩ := pal3 us hl; rfl
theorem pa_BehindMove : PlainArgs "behind_move" sBehindMove ["setting", "move"] := fun _ _ _ _ _ _ us hl => by obtain ⟨v0, v1, rfl⟩ := pal2 us hl; rfl
theorem pa_Moved : PlainArgs "moved" sMoved ["manner", "setting", "move"] := fun _ _ _ _ _ _ us hl => by obtain ⟨v0, v1, v2, rfl⟩ := pal3 us hl; rfl
theorem pa_AllMoves : PlainArgs "all_moves" sAllMoves ["manner", "setting"] := fun _ _ _ _ _ _ us hl => by obtain ⟨v0, v1, rfl⟩ := pal2 us hl; rfl
theorem pa_Run : PlainArgs "run" sRun ["manner", "setting", "moves"] := fun _ _ _ _ _ _ us hl => by obtain ⟨v0, v1, v2, rfl⟩ := pal3 us hl; rfl
theorem pa_LRefused : PlainArgs "_law_refused" sLRefused ["_law_e"] := fun _ _ _ _ _ _ us hl => by obtain ⟨v0, rfl⟩ := pal1 us hl; rfl
theorem pa_LTold : PlainArgs "_law_told" sLTold ["_law_way", "_law_manner_here", "_law_setting_here", "_law_thing"] := fun _ _ _ _ _ _ us hl => by obtain ⟨v0, v1, v2, v3, rfl⟩ := pal4 us hl; rfl
theorem pa_LBehind : PlainArgs "_law_behind" sLBehind ["_law_manner_here", "_law_setting_here", "_law_move"] := fun _ _ _ _ _ _ us hl => by obtain ⟨v0, v1, v2, rfl⟩ := pal3 us hl; rfl
theorem pa_LMoves : PlainArgs "_law_moves" sLMoves ["_law_manner_here", "_law_setting_here"] := fun _ _ _ _ _ _ us hl => by obtain ⟨v0, v1, rfl⟩ := pal2 us hl; rfl
theorem pa_LDrawnMoves : PlainArgs "_law_drawn_moves" sLDrawnMoves ["_law_script", "_law_at", "_law_manner_here", "_law_setting_here"] := fun _ _ _ _ _ _ us hl => by obtain ⟨v0, v1, v2, v3, rfl⟩ := pal4 us hl; rfl
theorem claw (HT : allN = true) {P : Program} {w : World} {K : PySem.W.Frag} {h : Heap} {mg : Str → Option Value} {base : Heap} (X : K.In h) (G : h.Ns mainGlobals mg) (T : Tops K) (C : Consts K mg) : CLaw P w K mg base := by
  have c_isWhole : Callee P w K mg base "is_whole" ["thing", "least", "most"] 1 3 gIsWhole := T.isWhole.callee X G pa_isWhole fun f fd F => fn_pure F sc_isWhole fun cdv A outer s H E hr => bIsWhole.2 P w K mg base f cdv A outer s H E C.b hr
  have c_rodWorth : Callee P w K mg base "rod_worth" ["manner", "rod"] 1 2 gRodWorth := T.rodWorth.callee X G pa_rodWorth fun f fd F => fn_pure F sc_rodWorth fun cdv A outer s H E hr => bRodWorth.2 P w K mg base f cdv A outer s H E trivial hr
  have c_allRods : Callee P w K mg base "all_rods" ["manner"] 1 1 gAllRods := T.allRods.callee X G pa_allRods fun f fd F => ok_allRods F C.b
  have c_hasAll : Callee P w K mg base "has_all_digits" ["manner"] 2 1 gHasAll := T.hasAll.callee X G pa_hasAll fun f fd F => fn_pure F sc_hasAll fun cdv A outer s H E hr => bHasAll.2 P w K mg base f cdv A outer s H E ⟨C.b, c_allRods, c_rodWorth⟩ hr
  have c_isManner : Callee P w K mg base "is_manner" ["thing"] 3 1 gIsManner := T.isManner.callee X G pa_isManner fun f fd F => fn_pure F sc_isManner fun cdv A outer s H E hr => bIsManner.2 P w K mg base f cdv A outer s H E ⟨C.b, C.least, C.most, c_isWhole, c_hasAll⟩ hr
  have c_check : Callee P w K mg base "check_manner" ["thing"] 4 1 gCheck := T.check.callee X G pa_check fun f fd F => fn_pure F sc_check fun cdv A outer s H E hr => bCheck.2 P w K mg base f cdv A outer s H E ⟨c_isManner⟩ hr
  have c_isRod : Callee P w K mg base "is_rod" ["manner", "thing"] 2 2 gIsRod := T.isRod.callee X G pa_isRod fun f fd F => fn_pure F sc_isRod fun cdv A outer s H E hr => bIsRod.2 P w K mg base f cdv A outer s H E ⟨C.b, c_isWhole⟩ hr
  have c_isSet : Callee P w K mg base "is_setting" ["manner", "thing"] 5 2 gIsSet := T.isSet.callee X G pa_isSet fun f fd F => fn_pure F sc_isSet fun cdv A outer s H E hr => bIsSet.2 P w K mg base f cdv A outer s H E ⟨C.b, c_check, c_isRod, C.mostRods⟩ hr
  have c_chkSet : Callee P w K mg base "check_setting" ["manner", "thing"] 6 2 gChkSet := T.chkSet.callee X G pa_chkSet fun f fd F => fn_pure F sc_chkSet fun cdv A outer s H E hr => bChkSet.2 P w K mg base f cdv A outer s H E ⟨c_isSet⟩ hr
  have c_cell : Callee P w K mg base "_law_cell" ["_law_script", "_law_k"] 1 2 gCell := T.cell.callee X G pa_cell fun f fd F => fn_pure F sc_cell fun cdv A outer s H E hr => bCell.2 P w K mg base f cdv A outer s H E C.b hr
  have c_drawn : Callee P w K mg base "_law_drawn" ["_law_script", "_law_k", "_law_many"] 2 3 gDrawn := T.drawn.callee X G pa_drawn fun f fd F => fn_pure F sc_drawn fun cdv A outer s H E hr => bDrawn.2 P w K mg base f cdv A outer s H E ⟨c_cell⟩ hr
  have c_manner : Callee P w K mg base "_law_manner" ["_law_script", "_law_at"] 3 2 gManner := T.manner.callee X G pa_manner fun f fd F => fn_pure F sc_manner fun cdv A outer s H E hr => bManner.2 P w K mg base f cdv A outer s H E ⟨C.b, c_drawn⟩ hr
  have c_setting : Callee P w K mg base "_law_setting" ["_law_script", "_law_at", "_law_manner_here", "_law_most"] 3 4 gSet := T.setting.callee X G pa_setting fun f fd F => fn_pure F sc_set fun cdv A outer s H E hr => bSet.2 P w K mg base f cdv A outer s H E ⟨C.b, c_drawn⟩ hr
  have x_check : ThrC P w K mg base "check_manner" ["thing"] 4 1 tCheck := T.check.thr X G pa_check fun f fd F => fn_thr F sc_check fun cdv A outer s H E hr => xCheck.2 P w K mg base f cdv A outer s H E ⟨c_isManner, (C.errT.err (by decide))⟩ hr
  have x_isSet : ThrC P w K mg base "is_setting" ["manner", "thing"] 5 2 tIsSet := T.isSet.thr X G pa_isSet fun f fd F => fn_thr F sc_isSet fun cdv A outer s H E hr => xIsSet.2 P w K mg base f cdv A outer s H E ⟨x_check⟩ hr
  have x_chkSet : ThrC P w K mg base "check_setting" ["manner", "thing"] 6 2 tChkSet := T.chkSet.thr X G pa_chkSet fun f fd F => fn_thr F sc_chkSet fun cdv A outer s H E hr => xChkSet.2 P w K mg base f cdv A outer s H E ⟨c_isSet, x_isSet, (C.errT.err (by decide))⟩ hr
  have c_NamesBeads : Callee P w K mg base "names_beads" ["setting", "thing"] 2 2 gNamesBeads := T.NamesBeads.callee X G pa_NamesBeads fun f fd F => fn_pure F sc_NamesBeads fun cdv A outer s H E hr => bNamesBeads.2 P w K mg base f cdv A outer s H E ⟨C.b, c_isWhole, C.decks⟩ hr
  have c_Pushed : Callee P w K mg base "pushed" ["rod", "deck", "by"] 1 3 gPushed := T.Pushed.callee X G pa_Pushed fun f fd F => fn_pure F sc_Pushed fun cdv A outer s H E hr => bPushed.2 P w K mg base f cdv A outer s H E ⟨trivial⟩ hr
  have c_CanMove : Callee P w K mg base "can_move" ["manner", "setting", "thing"] 3 3 gCanMove := T.CanMove.callee X G pa_CanMove fun f fd F => fn_pure F sc_CanMove fun cdv A outer s H E hr => bCanMove.2 P w K mg base f cdv A outer s H E ⟨c_NamesBeads, c_isRod, c_Pushed⟩ hr
  have c_IsMove : Callee P w K mg base "is_move" ["manner", "setting", "thing"] 7 3 gIsMove := T.IsMove.callee X G pa_IsMove fun f fd F => fn_pure F sc_IsMove fun cdv A outer s H E hr => bIsMove.2 P w K mg base f cdv A outer s H E ⟨c_chkSet, c_CanMove⟩ hr
  have g_IsMove : GC K mg "is_move" (fnD "is_move") := by
    obtain ⟨f, oc, od, an, kV, doc, pm, cdv, ct, osl, a, _⟩ := T.IsMove
    exact ⟨.ref f, .ref f, PySem.W.mg_of X G a, rfl, fun H => ⟨f, rfl, .inr (.inr (.inl ⟨_, rfl, a⟩))⟩⟩
  have c_BehindMove : Callee P w K mg base "behind_move" ["setting", "move"] 2 2 gBehindMove := T.BehindMove.callee X G pa_BehindMove fun f fd F => fn_pure F sc_BehindMove fun cdv A outer s H E hr => bBehindMove.2 P w K mg base f cdv A outer s H E ⟨c_Pushed⟩ hr
  have c_Moved : Callee P w K mg base "moved" ["manner", "setting", "move"] 7 3 gMoved := T.Moved.callee X G pa_Moved fun f fd F => fn_pure F sc_Moved fun cdv A outer s H E hr => bMoved.2 P w K mg base f cdv A outer s H E ⟨c_chkSet, c_CanMove, c_BehindMove⟩ hr
  have g_Moved : GC K mg "moved" (fnD "moved") := by
    obtain ⟨f, oc, od, an, kV, doc, pm, cdv, ct, osl, a, _⟩ := T.Moved
    exact ⟨.ref f, .ref f, PySem.W.mg_of X G a, rfl, fun H => ⟨f, rfl, .inr (.inr (.inl ⟨_, rfl, a⟩))⟩⟩
  have c_AllMoves : Callee P w K mg base "all_moves" ["manner", "setting"] 7 2 gAllMoves := T.AllMoves.callee X G pa_AllMoves fun f fd F => fn_pure F sc_AllMoves fun cdv A outer s H E hr => bAllMoves.2 P w K mg base f cdv A outer s H E ⟨C.b, c_chkSet, c_CanMove, C.decks, C.ways⟩ hr
  have c_Run : Callee P w K mg base "run" ["manner", "setting", "moves"] 8 3 gRun := T.Run.callee X G pa_Run fun f fd F => fn_pure F sc_Run fun cdv A outer s H E hr => bRun.2 P w K mg base f cdv A outer s H E ⟨C.b, c_chkSet, c_Moved⟩ hr
  have g_Run : GC K mg "run" (fnD "run") := by
    obtain ⟨f, oc, od, an, kV, doc, pm, cdv, ct, osl, a, _⟩ := T.Run
    exact ⟨.ref f, .ref f, PySem.W.mg_of X G a, rfl, fun H => ⟨f, rfl, .inr (.inr (.inl ⟨_, rfl, a⟩))⟩⟩
  have x_IsMove : ThrC P w K mg base "is_move" ["manner", "setting", "thing"] 7 3 tIsMove := T.IsMove.thr X G pa_IsMove fun f fd F => fn_thr F sc_IsMove fun cdv A outer s H E hr => xIsMove.2 P w K mg base f cdv A outer s H E ⟨x_chkSet⟩ hr
  have x_Moved : ThrC P w K mg base "moved" ["manner", "setting", "move"] 7 3 tMoved := T.Moved.thr X G pa_Moved fun f fd F => fn_thr F sc_Moved fun cdv A outer s H E hr => xMoved.2 P w K mg base f cdv A outer s H E ⟨c_CanMove, c_chkSet, x_chkSet, (C.errT.err (by decide))⟩ hr
  have x_AllMoves : ThrC P w K mg base "all_moves" ["manner", "setting"] 7 2 tAllMoves := T.AllMoves.thr X G pa_AllMoves fun f fd F => fn_thr F sc_AllMoves fun cdv A outer s H E hr => xAllMoves.2 P w K mg base f cdv A outer s H E ⟨x_chkSet⟩ hr
  have x_Run : ThrC P w K mg base "run" ["manner", "setting", "moves"] 8 3 tRun := T.Run.thr X G pa_Run fun f fd F => fn_thr F sc_Run fun cdv A outer s H E hr => xRun.2 P w K mg base f cdv A outer s H E ⟨C.b, c_Moved, c_chkSet, x_chkSet, x_Moved, (C.errT.err (by decide))⟩ hr
  have h_LRefused : CalleeH P w K mg base "_law_refused" ["_law_e"] 1 1 gLRefused := T.LRefused.hdl X G pa_LRefused fun f fd F => fn_h F sc_LRefused fun cdv A outer s H E hr => bLRefused.2 P w K mg base f cdv A outer s H E ⟨C.b, C.errT⟩ hr
  have c_LTold : Callee P w K mg base "_law_told" ["_law_way", "_law_manner_here", "_law_setting_here", "_law_thing"] 9 4 gLTold := T.LTold.callee X G pa_LTold fun f fd F => fn_pure0 F sc_LTold fun cdv A outer s H E hr => bLTold.2 P w K mg base f cdv A outer s H E ⟨c_IsMove, c_Moved, c_Run, c_AllMoves, g_IsMove, g_Moved, g_Run, x_IsMove, x_Moved, x_Run, x_AllMoves, h_LRefused, C.errT⟩ hr
  have c_LBehind : Callee P w K mg base "_law_behind" ["_law_manner_here", "_law_setting_here", "_law_move"] 1 3 gLBehind := T.LBehind.callee X G pa_LBehind fun f fd F => fn_pure F sc_LBehind fun cdv A outer s H E hr => bLBehind.2 P w K mg base f cdv A outer s H E ⟨C.b⟩ hr
  have c_LMoves : Callee P w K mg base "_law_moves" ["_law_manner_here", "_law_setting_here"] 2 2 gLMoves := T.LMoves.callee X G pa_LMoves fun f fd F => fn_pure F sc_LMoves fun cdv A outer s H E hr => bLMoves.2 P w K mg base f cdv A outer s H E ⟨C.b, c_LBehind⟩ hr
  have c_LDrawnMoves : Callee P w K mg base "_law_drawn_moves" ["_law_script", "_law_at", "_law_manner_here", "_law_setting_here"] 3 4 gLDrawnMoves := T.LDrawnMoves.callee X G pa_LDrawnMoves fun f fd F => fn_pure F sc_LDrawnMoves fun cdv A outer s H E hr => bLDrawnMoves.2 P w K mg base f cdv A outer s H E ⟨C.b, c_drawn, c_LMoves, c_LBehind⟩ hr
  exact ⟨C.b, c_manner, c_setting, c_LMoves, c_LTold, c_drawn, c_LBehind, c_LDrawnMoves⟩
theorem all_mk (HT : allN = true) {P : Program} {w : World} {K : PySem.W.Frag} {h : Heap} {mg : Str → Option Value} {fa : Addr} (X : K.In h) (G : h.Ns mainGlobals mg) (hfa : mg "law" = some (.ref fa)) (T : Tops K) (C : Consts K mg) :
    ∃ fd : FuncData, (∀ (s : Shared) (v : Value), BindsTo s fd ⟨[v], []⟩ [("_law_script", v)]) ∧ ∀ base : Heap, K.In base → base.Ns mainGlobals mg → FnOk P w K mg base CX0 10 fa fd ["_law_script"] (Pur K 1 gLaw) := by
  have Q : ∀ base : Heap, CLaw P w K mg base := fun base => claw HT X G T C
  obtain ⟨f, oc, od, an, kV, doc, pm, cdv, ct, osl, a, l, c, kp⟩ := T.law
  have e := hfa.symm.trans (PySem.W.mg_of X G a)
  cases e
  have F1 := fun_mk (st := sLaw) l c kp
  exact ⟨_, fun s v => .of_eq rfl, fun base _ _ => fn_pure F1 sc_Law fun cdv A outer s H E hr => bLaw.2 P w K mg base fa cdv A outer s H E (Q base) hr⟩
theorem sp_ok (HT : allN = true) (K : PySem.W.Frag) (H : Hp) (a : Addr) (ns : List Int) (hl : ns.length ≤ 63) (hS : SqL K H a (ns.map V.int)) : Pur K 1 gLaw [.ref a] H (fun v _ => v = .bl true) fun _ _ _ => False :=
  ⟨[scr ns], .bool true, rfl, ⟨_, _, rfl, ⟨a, rfl, .inl ⟨ns, hS, rfl⟩⟩, rfl⟩, gLaw_true HT ns (by omega), fun v H' _ r => r⟩
theorem walk (HT : allN = true) {l : PySem.W.OpenLaw} {q : Program} {loose : List Str} {XP : (Str → Option Value) → Heap → Prop} {YP : World → Heap → Prop} {d : DefRec} {K : Params → PySem.W.Frag} (hn : l.most = some 63) (hdf : d.params.defaults = [])
    (hY : ∀ (w : World) (h : Heap), YP w h → (K w.params).In h) (hnm : d.name = "law")
    (F : ∀ (w : World) (mg : Str → Option Value) (h : Heap), (K w.params).In h → h.Ns mainGlobals mg → Tops (K w.params) ∧ Consts (K w.params) mg) :
    PySem.W.WalkO q loose XP YP l.row.toRowW d [] (fun f vs => PySem.call f vs) :=
  L2.walk_of (n := 63) (k := 10) (x := "_law_script") (CX := fun _ => CX0) (sp := fun w => Pur (K w.params) 1 gLaw) hn (by decide) hdf ⟨rfl, by decide, by decide⟩ hY (fun w mg fa h KX G hm => by
    obtain ⟨T, C⟩ := F w mg h KX G
    rw [hnm] at hm
    exact all_mk HT KX G hm T C) (fun w H a ns hl _ hS => sp_ok HT (K w.params) H a ns hl hS) fun _ _ _ _ _ z => z
end Rods

end
section
set_option Elab.async false
set_option linter.all false
namespace Rods
open PySem L2 BX
open PyProof.Rows hiding St
theorem bare_mk {K : PySem.W.Frag} {mg : Str → Option Value} {h : Heap} (X : K.In h) (G : h.Ns mainGlobals mg) (z1 : PySem.W.nsIn K mainGlobals "isinstance" = some none) (z2 : PySem.W.nsIn K mainGlobals "bool" = some none) (z3 : PySem.W.nsIn K mainGlobals "int" = some none) (z4 : PySem.W.nsIn K mainGlobals "tuple" = some none) (z5 : PySem.W.nsIn K mainGlobals "zip" = some none) (z6 : PySem.W.nsIn K mainGlobals "range" = some none) (z7 : PySem.W.nsIn K mainGlobals "all" = some none) (z8 : PySem.W.nsIn K mainGlobals "len" = some none) (z9 : PySem.W.nsIn K mainGlobals "max" = some none) (z10 : PySem.W.nsIn K mainGlobals "min" = some none) (z11 : PySem.W.nsIn K mainGlobals "sum" = some none) (z12 : PySem.W.nsIn K mainGlobals "sorted" = some none) (z13 : PySem.W.nsIn K mainGlobals "abs" = some none) (z14 : PySem.W.nsIn K mainGlobals "list" = some none) (z15 : PySem.W.nsIn K mainGlobals "enumerate" = some none) (z16 : PySem.W.nsIn K mainGlobals "ValueError" = some none) (z17 : PySem.W.nsIn K mainGlobals "str" = some none) (z18 : PySem.W.nsIn K mainGlobals "set" = some none) (z19 : PySem.W.nsIn K mainGlobals "dict" = some none) : Bare mg :=
  have f : ∀ {x : Str}, PySem.W.nsIn K mainGlobals x = some none → mg x = none := fun z => PySem.W.mg_none_of X G z
  ⟨f z1, f z2, f z3, f z4, f z5, f z6, f z7, f z8, f z9, f z10, f z11, f z12, f z13, f z14, f z15, f z16, f z17, f z18, f z19⟩
theorem gc4 {K : PySem.W.Frag} {mg : Str → Option Value} {h : Heap} {x : Str} {a : Addr} {od : Option Addr} {n : Nat} {osl : Array (Option Value)} {i1 i2 i3 i4 : Int} {t1 t2 t3 t4 : Tok} (X : K.In h) (G : h.Ns mainGlobals mg) (e : PySem.W.nsIn K mainGlobals x = some (some (.ref a)))
    (l : K.lookup a = some ⟨.type "tuple", od, .seq #[.int i1 t1, .int i2 t2, .int i3 t3, .int i4 t4] n, osl⟩) : GC K mg x (.tuple [.int i1, .int i2, .int i3, .int i4]) :=
  gc_tuple X G e l rfl ⟨_, _, [.int i1, .int i2, .int i3, .int i4], rfl, (by show 4 ≤ sizeLine; rw [sizeLine_eq]; decide), .cons ⟨_, rfl⟩ (.cons ⟨_, rfl⟩ (.cons ⟨_, rfl⟩ (.cons ⟨_, rfl⟩ .nil))), fun H => ⟨_, _, rfl, rfl, _, _, rfl, rfl, _, _, rfl, rfl, _, _, rfl, rfl, rfl⟩⟩
theorem gcI {K : PySem.W.Frag} {mg : Str → Option Value} {h : Heap} {x : Str} {i : Int} {t : Tok} (X : K.In h) (G : h.Ns mainGlobals mg) (e : PySem.W.nsIn K mainGlobals x = some (some (.int i t))) : GC K mg x (.int i) :=
  ⟨.int i, _, PySem.W.mg_of X G e, ⟨t, rfl⟩, fun H => rfl⟩
theorem gc_DECKS {K : PySem.W.Frag} {mg : Str → Option Value} {h : Heap} {x : Str} {a : Addr} {od : Option Addr} {n : Nat} {osl : Array (Option Value)} {i1 i2 : Str} {t1 t2 : Tok} (X : K.In h) (G : h.Ns mainGlobals mg) (e : PySem.W.nsIn K mainGlobals x = some (some (.ref a)))
    (l : K.lookup a = some ⟨.type "tuple", od, .seq #[.str i1 t1, .str i2 t2] n, osl⟩) : GC K mg x (.tuple [.str i1, .str i2]) :=
  gc_tuple X G e l rfl ⟨_, _, [.str i1, .str i2], rfl, (by show 2 ≤ sizeLine; rw [sizeLine_eq]; decide), .cons ⟨_, rfl⟩ (.cons ⟨_, rfl⟩ .nil), fun H => ⟨_, _, rfl, rfl, _, _, rfl, rfl, rfl⟩⟩
theorem gc_WAYS {K : PySem.W.Frag} {mg : Str → Option Value} {h : Heap} {x : Str} {a : Addr} {od : Option Addr} {n : Nat} {osl : Array (Option Value)} {i1 i2 : Int} {t1 t2 : Tok} (X : K.In h) (G : h.Ns mainGlobals mg) (e : PySem.W.nsIn K mainGlobals x = some (some (.ref a)))
    (l : K.lookup a = some ⟨.type "tuple", od, .seq #[.int i1 t1, .int i2 t2] n, osl⟩) : GC K mg x (.tuple [.int i1, .int i2]) :=
  gc_tuple X G e l rfl ⟨_, _, [.int i1, .int i2], rfl, (by show 2 ≤ sizeLine; rw [sizeLine_eq]; decide), .cons ⟨_, rfl⟩ (.cons ⟨_, rfl⟩ .nil), fun H => ⟨_, _, rfl, rfl, _, _, rfl, rfl, rfl⟩⟩
theorem errT_mk {K : PySem.W.Frag} {mg : Str → Option Value} {h : Heap} {y : Str} {cs : List Str} (X : K.In h) (G : h.Ns mainGlobals mg) (q : errTab K y cs = true) : ErrT K mg y cs :=
  ⟨q, fun c C e => PySem.W.mg_of X G (adr_out e)⟩
end Rods
-- These names are taken so that the head of the row lays no quick copy (with a long proof that it is the same) of a few large parts: the kernel then reads the parts themselves.
def PySem.W.Fast.tw16569244838337875208 : Unit := ()
def PySem.W.Fast.tw12121950719091063517 : Unit := ()
def PySem.W.Fast.tw4993727821005526776 : Unit := ()
def PySem.W.Fast.tw17124719243224412490 : Unit := ()
def PySem.W.Fast.tw13298657112927939838 : Unit := ()
def PySem.W.Fast.tw16501966855198651412 : Unit := ()
def PySem.W.Fast.tw16144443864861292078 : Unit := ()
open PySem PySem.W PyProof.Rows
set_option maxRecDepth 100000 in
set_option maxHeartbeats 0 in
theorem PySem.Challenge.cw_beadrods_k20_moves_holds : PySem.Challenge.rw_beadrods_k20_moves.Holds := by
  w_on; o_law; k_head; (case hw => w_witness2)
  k_fill
  refine Rods.walk Rods.allN_true (l := PySem.Challenge.rw_beadrods_k20_moves) rfl rfl (fun w h Y => PySem.W.kIn_of Y) rfl ?F
  case F =>
    intro w mg h KX G
    refine ⟨⟨?f1, ?f2, ?f3, ?f4, ?f5, ?f6, ?f7, ?f8, ?f9, ?f10, ?f11, ?f12, ?f13, ?f14, ?f15, ?f16, ?f17, ?f18, ?f19, ?f20, ?f21, ?f22, ?f23, ?f24, ?f25, ?f26, ?f27⟩, ⟨?b, ?c1, ?c2, ?c3, ?c4, ?c5, ?et⟩⟩
    case b => refine' Rods.bare_mk KX G ?_ ?_ ?_ ?_ ?_ ?_ ?_ ?_ ?_ ?_ ?_ ?_ ?_ ?_ ?_ ?_ ?_ ?_ ?_ <;> k_is
    case c1 =>
      refine' Rods.gc4 KX G ?a ?l
      (case a => k_is); (case l => k_is)
    case c2 =>
      refine' Rods.gc4 KX G ?a ?l
      (case a => k_is); (case l => k_is)
    case c3 =>
      refine' Rods.gcI KX G ?a
      (case a => k_is)
    case c4 =>
      refine' Rods.gc_DECKS KX G ?a ?l
      (case a => k_is); (case l => k_is)
    case c5 =>
      refine' Rods.gc_WAYS KX G ?a ?l
      (case a => k_is); (case l => k_is)
    case et => exact Rods.errT_mk KX G (by kernel_rfl)
    all_goals
      refine' BX.topfn_mk ?a ?l ?c ?k
      (case a => k_is); (case l => k_is); (case c => k_is); (case k => k_is)
#print axioms PySem.Challenge.cw_beadrods_k20_moves_holds

end
