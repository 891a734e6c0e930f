import PyProof.Rows.All
import Wide.All
import OpenK.AllK
import Wide.FinOn
import Lean
import PyProof.EqAt
import PyProof.EqKinds
import PyProof.TupleCall
import PyProof.NeKinds
import PyProof.IsInstanceH
import PyProof.IsiNone
import PyProof.EnumMake
import PyProof.Draws
import PyProof.ZipIter
import PyProof.ListRange
import KE.RegKIsAll
import PyProof.ExcAttrAll.ValueError
import PyProof.NsDelKeeps
import PyProof.Rows.StrJoin2
import PySem.Challenge.RW_followmost_k05_what_fits
set_option Elab.async false
set_option linter.all false
set_option maxRecDepth 100000
namespace L2
open PySem PySem.Spec PyProof.Rows
abbrev Key := Sum Int Str
def qW : Key → Value → Bool
  | .inl k, v => Value.isInt k v
  | .inr x, v => Value.isStrOf x v
def IV (w : World) : Key → Int
  | .inl k => hashInt k
  | .inr x => hashStr w x
theorem ck : ∀ {k : Key} {v : Value}, qW k v = true → (∃ i t, k = Sum.inl i ∧ v = Value.int i t) ∨ (∃ x t, k = Sum.inr x ∧ v = Value.str x t)
  | .inl i, v, h => by
    obtain ⟨t, e⟩ := Value.isInt_shape (k := i) (v := v) h
    exact .inl ⟨i, t, rfl, e⟩
  | .inr x, v, h => by
    obtain ⟨t, e⟩ := Value.isStrOf_shape (x := x) (v := v) h
    exact .inr ⟨x, t, rfl, e⟩
theorem zQ (i : Int) (t : Tok) : qW (.inl i) (.int i t) = true := by simp [qW, Value.isInt]
theorem zR (x : Str) (t : Tok) : qW (.inr x) (.str x t) = true := by simp [qW, Value.isStrOf]
theorem FJ (a b : Int) : decide ((Sum.inl a : Key) = Sum.inl b) = (a == b) := by
  by_cases e : a = b
  · subst e; simp
  · have h : ¬ (Sum.inl a : Key) = Sum.inl b := fun q => e (Sum.inl.inj q)
    rw [decide_eq_false h]
    exact (beq_eq_false_iff_ne.mpr e).symm
theorem FK (a b : Str) : decide ((Sum.inr a : Key) = Sum.inr b) = decide (a = b) := by
  by_cases e : a = b
  · subst e; simp
  · have h : ¬ (Sum.inr a : Key) = Sum.inr b := fun q => e (Sum.inr.inj q)
    rw [decide_eq_false h, decide_eq_false e]
theorem FL (a : Int) (b : Str) : decide ((Sum.inl a : Key) = Sum.inr b) = false := decide_eq_false (fun q => nomatch q)
theorem FM (a : Str) (b : Int) : decide ((Sum.inr a : Key) = Sum.inl b) = false := decide_eq_false (fun q => nomatch q)
def cz (prog : Program) (w : World) : PySem.KeyKind prog w Key where
  is := qW
  hash := IV w
  inj := fun v a b ha hb => by
    rcases ck ha with ⟨i, t, rfl, rfl⟩ | ⟨x, t, rfl, rfl⟩
    · rcases ck hb with ⟨j, u, rfl, e⟩ | ⟨y, u, rfl, e⟩
      · injection e with e1 _; rw [e1]
      · exact nomatch e
    · rcases ck hb with ⟨j, u, rfl, e⟩ | ⟨y, u, rfl, e⟩
      · exact nomatch e
      · injection e with e1 _; rw [e1]
  byValue := fun k v h => by
    rcases ck h with ⟨i, t, rfl, rfl⟩ | ⟨x, t, rfl, rfl⟩ <;> rfl
  pyHash := fun hv h => by
    rcases ck hv with ⟨i, t, rfl, rfl⟩ | ⟨x, t, rfl, rfl⟩
    · exact wpAny_pyHash_int h
    · exact wpAny_pyHash_str h
  eqBool := fun hu hv h => by
    rcases ck hu with ⟨i, t, rfl, rfl⟩ | ⟨x, t, rfl, rfl⟩
    · rcases ck hv with ⟨j, u, rfl, rfl⟩ | ⟨y, u, rfl, rfl⟩
      · rw [FJ] at h; exact wpAny_eqBool_int h
      · rw [FL] at h; exact SeqAt.EqAt.int_str i t y u _ _ _ _ h
    · rcases ck hv with ⟨j, u, rfl, rfl⟩ | ⟨y, u, rfl, rfl⟩
      · rw [FM] at h; exact SeqAt.EqAt.str_int x t j u _ _ _ _ h
      · rw [FK] at h; exact wpAny_eqBool_str h
  «strs» := fun k x t v h => by
    rcases ck h with ⟨i, u, rfl, e⟩ | ⟨y, u, rfl, e⟩
    · exact nomatch e
    · injection e with e1 _
      subst e1
      cases v <;> rfl
theorem uI (prog : Program) (w : World) (i : Int) (t : Tok) : (cz prog w).is (.inl i) (.int i t) = true := zQ i t
theorem uJ (prog : Program) (w : World) (x : Str) (t : Tok) : (cz prog w).is (.inr x) (.str x t) = true := zR x t
end L2
namespace L2
open PySem PySem.Spec PyProof.Rows
inductive V where
  | non | bl (b : Bool) | int (i : Int) | str (x : Str) | byt (b : Array UInt8) | flt (b : UInt64) | ref (a : Addr) | ty (n : String)
  deriving DecidableEq
def bB : V → Value → Prop
  | .non, u => u = Value.none
  | .bl b, u => u = Value.bool b
  | .int i, u => ∃ t, u = Value.int i t
  | .str x, u => ∃ t, u = Value.str x t
  | .byt b, u => ∃ t, u = Value.bytes b t
  | .flt b, u => ∃ t, u = Value.float b t
  | .ref a, u => u = Value.ref a
  | .ty n, u => u = Value.type n
abbrev aV : List V → List Value → Prop := Paired bB
theorem aV.length {xs : List V} {us : List Value} (r : aV xs us) : xs.length = us.length := Paired.length r
theorem aV.get : ∀ {xs : List V} {us : List Value} {i : Nat} {x : V}, aV xs us → xs[i]? = some x → ∃ u, us[i]? = some u ∧ bB x u
  | _, _, _, _, .nil, e => by simp at e
  | _, _, 0, _, .cons r _, e => by simp at e; subst e; exact ⟨_, rfl, r⟩
  | _, _, i + 1, x, .cons _ t, e => by
    obtain ⟨u, h1, h2⟩ := aV.get (i := i) (x := x) t (by simpa using e)
    exact ⟨u, by simpa using h1, h2⟩
theorem aV.set {x : V} {u : Value} (r : bB x u) : ∀ {xs : List V} {us : List Value} (i : Nat), aV xs us → aV (xs.set i x) (us.set i u)
  | _, _, _, .nil => .nil
  | _, _, 0, .cons _ t => .cons r t
  | _, _, i + 1, .cons q t => .cons q (aV.set r i t)
theorem aV.append : ∀ {xs ys : List V} {us ws : List Value}, aV xs us → aV ys ws → aV (xs ++ ys) (us ++ ws)
  | _, _, _, _, .nil, s => s
  | _, _, _, _, .cons r t, s => .cons r (aV.append t s)
theorem aV.take : ∀ {xs : List V} {us : List Value} (n : Nat), aV xs us → aV (xs.take n) (us.take n)
  | _, _, 0, _ => .nil
  | _, _, _ + 1, .nil => .nil
  | _, _, n + 1, .cons r t => .cons r (aV.take n t)
theorem aV.drop : ∀ {xs : List V} {us : List Value} (n : Nat), aV xs us → aV (xs.drop n) (us.drop n)
  | _, _, 0, r => r
  | _, _, _ + 1, .nil => .nil
  | _, _, n + 1, .cons _ t => aV.drop n t
def zS : Option V → Option Value → Prop
  | some v, some u => bB v u
  | none, none => True
  | _, _ => False
def KV {κ : Type} : List (κ × V) → List (κ × Value) → Prop := Paired fun (p : κ × V) (q : κ × Value) => p.1 = q.1 ∧ bB p.2 q.2
def kV : Key → V
  | .inl i => .int i
  | .inr x => .str x
inductive HO where
    | lst (xs : List V)
    | tup (xs : List V)
    | dK (kvs : List (Key × V)) | dT (kvs : List (List Key × V))
    | set (S : Int → Bool) (n : Nat)
    | ins (C dx : Addr) (fs : List (Str × V))
    | own (x : Addr)
    | xd (fs : List (Str × V))
    | met (f x : Addr)
    | rng (lo hi : Int)
    | frz (o : Obj) (u : HO)
    | tbl (ps : Array Value)
    | ext (φ : Heap → Prop)
abbrev Hp := Addr → Option HO
def upd (H : Hp) (a : Addr) (o : HO) : Hp := fun b => if b = a then some o else H b
theorem aT {H : Hp} {a : Addr} {o : HO} : upd H a o a = some o := by unfold upd; rw [if_pos rfl]
theorem aA {H : Hp} {a b : Addr} {o : HO} (h : b ≠ a) : upd H a o b = H b := by unfold upd; rw [if_neg h]
theorem Fv {H : Hp} {a b : Addr} {o u : HO} (h : H a = some o) (h' : H b = some u) (d : o ≠ u) : a ≠ b := by
  intro e; subst e; rw [h] at h'; exact d (Option.some.inj h')
theorem a8 {H : Hp} {a b : Addr} {o : HO} (h : H a = some o) (h' : H b = none) : a ≠ b := by
  intro e; subst e; rw [h] at h'; cases h'
section
variable (P : Program) (w : World)
def c7 (H : Hp) (h : Heap) (a : Addr) : HO → Prop
  | .lst xs => xs.length ≤ sizeLine ∧ ∃ (its : List Value) (n : Nat), aV xs its ∧ h.get? a = some { cls := .type "list", data := .seq its.toArray n }
  | .tup xs => xs.length ≤ sizeLine ∧ ∃ its : List Value, aV xs its ∧ IsTup h a its.toArray
  | .dK kvs => kvs.length ≤ sizeLine ∧ (a == sysModules) = false ∧ ∃ vs, KV kvs vs ∧ h.DictOf (cz P w) a vs
  | .dT kvs => kvs.length ≤ sizeLine ∧ (a == sysModules) = false ∧ ∃ xs : List (List Key × Addr × Value),
      Paired (fun (p : List Key × V) (q : List Key × Addr × Value) => p.1 = q.1 ∧ H q.2.1 = some (.tup (p.1.map kV)) ∧ bB p.2 q.2.2) kvs xs ∧
      ∃ o es ep, h.get? a = some o ∧ o.ExactDict ∧ o.data = .dict es ep ∧ es.toList = xs.map (entryOfKey (tupleKind (cz P w))) ∧ (xs.map (·.1)).Nodup
  | .set S n => h.SetOf (intKind P w) a S n
  | .ins C dx fs => H dx = some (.own a) ∧ fs.length ≤ 1000 ∧ dx ≠ a ∧ h.get? a = some (PySem.W.instObj C dx) ∧
      ∃ mA, h.Ns1 dx mA ∧ (∀ f, zS (fs.lookup f) (mA f)) ∧ PySem.Within mA (fs.map (·.1))
  | .own _ => ∃ o, h.get? a = some o
  | .xd fs => ∃ mA, h.Ns1 a mA ∧ ∀ f, zS (fs.lookup f) (mA f)
  | .rng lo hi => ∃ t u v, h.get? a = some { cls := .type "range", data := .fields #[.int lo t, .int hi u, .int 1 v] }
  | .frz o u => h.get? a = some o ∧ c7 H h a u
  | .tbl ps => h.get? a = some { cls := .none, data := .fields ps }
  | .met f x => h.get? a = some (PySem.W.methodObj (.ref f) (.ref x))
  | .ext φ => φ h ∧ (∃ o, h.get? a = some o) ∧ ∀ h1 h2 : Heap, φ h1 → (∀ o, h1.get? a = some o → h2.get? a = some o) → φ h2
def HOk (H : Hp) (h : Heap) : Prop := ∀ a o, H a = some o → c7 P w H h a o
end
section
variable {P : Program} {w : World} {H H' : Hp} {h h' : Heap} {a : Addr} {o : HO}
theorem c7.lt (x : c7 P w H h a o) : a < h.objs.size := by
  cases o with
  | lst xs => obtain ⟨_, _, _, _, e⟩ := x; exact Heap.lt_size e
  | tup xs => obtain ⟨_, _, _, p⟩ := x; exact p.lt
  | dK kvs => obtain ⟨_, _, _, _, o, _, _, e, _⟩ := x; exact Heap.lt_size e
  | dT kvs => obtain ⟨_, _, _, _, o, _, _, e, _⟩ := x; exact Heap.lt_size e
  | set S n => obtain ⟨o, _, _, _, e, _⟩ := x; exact Heap.lt_size e
  | ins C dx fs => obtain ⟨_, _, _, e, _⟩ := x; exact Heap.lt_size e
  | own y => obtain ⟨_, e⟩ := x; exact Heap.lt_size e
  | xd fs => obtain ⟨_, ⟨_, _, _, e, _⟩, _⟩ := x; exact Heap.lt_size e
  | rng lo hi => obtain ⟨_, _, _, e⟩ := x; exact Heap.lt_size e
  | frz ob u => obtain ⟨e, _⟩ := x; exact Heap.lt_size e
  | tbl ps => exact Heap.lt_size (show h.get? a = some _ from x)
  | met f y => exact Heap.lt_size (show h.get? a = some _ from x)
  | ext φ => obtain ⟨_, ⟨_, e⟩, _⟩ := x; exact Heap.lt_size e
theorem Paired.mapP {α β : Type} {F G : α → β → Prop} : ∀ {l₁ : List α} {l₂ : List β}, Paired F l₁ l₂ → (∀ a b, F a b → G a b) → Paired G l₁ l₂
  | _, _, .nil, _ => .nil
  | _, _, .cons r t, f => .cons (f _ _ r) (Paired.mapP t f)
theorem c7.stay (x : c7 P w H h a o) (k : ∀ b u, (b = a ∨ H b = some (.own a)) → h.get? b = some u → h'.get? b = some u)
    (ho : ∀ b, H b = some (.own a) → H' b = some (.own a)) (ht : ∀ b xs, H b = some (.tup xs) → H' b = some (.tup xs)) : c7 P w H' h' a o := by
  induction o with
  | lst xs => obtain ⟨z, its, n, r, e⟩ := x; exact ⟨z, its, n, r, k _ _ (.inl rfl) e⟩
  | tup xs => obtain ⟨z, its, r, ob, e, c⟩ := x; exact ⟨z, its, r, ob, k _ _ (.inl rfl) e, c⟩
  | dK kvs => obtain ⟨z, y, vs, r, ob, es, ep, e, c⟩ := x; exact ⟨z, y, vs, r, ob, es, ep, k _ _ (.inl rfl) e, c⟩
  | dT kvs =>
    obtain ⟨z, y, xs, r, ob, es, ep, e, c⟩ := x
    exact ⟨z, y, xs, Paired.mapP r fun p q z => ⟨z.1, ht _ _ z.2.1, z.2.2⟩, ob, es, ep, k _ _ (.inl rfl) e, c⟩
  | set S n => obtain ⟨ob, es, ep, t, e, c⟩ := x; exact ⟨ob, es, ep, t, k _ _ (.inl rfl) e, c⟩
  | ins C dx fs =>
    obtain ⟨d, z, ne, e, mA, ⟨od, es, ep, e2, c⟩, r⟩ := x
    exact ⟨ho _ d, z, ne, k _ _ (.inl rfl) e, mA, ⟨od, es, ep, k _ _ (.inr d) e2, c⟩, r⟩
  | own y => obtain ⟨ob, e⟩ := x; exact ⟨ob, k _ _ (.inl rfl) e⟩
  | xd fs => obtain ⟨mA, ⟨od, es, ep, e, c⟩, r⟩ := x; exact ⟨mA, ⟨od, es, ep, k _ _ (.inl rfl) e, c⟩, r⟩
  | rng lo hi => obtain ⟨t, u, v, e⟩ := x; exact ⟨t, u, v, k _ _ (.inl rfl) e⟩
  | frz ob u ih => obtain ⟨e, q⟩ := x; exact ⟨k _ _ (.inl rfl) e, ih q⟩
  | tbl ps =>
    have e : h.get? a = some { cls := .none, data := .fields ps } := x
    show h'.get? a = some { cls := .none, data := .fields ps }
    exact k a _ (.inl rfl) e
  | met f y =>
    have e : h.get? a = some (PySem.W.methodObj (.ref f) (.ref y)) := x
    show h'.get? a = some (PySem.W.methodObj (.ref f) (.ref y))
    exact k a _ (.inl rfl) e
  | ext φ => obtain ⟨p, ⟨o, e⟩, st⟩ := x; exact ⟨st _ _ p fun o q => k _ _ (.inl rfl) q, ⟨o, k _ _ (.inl rfl) e⟩, st⟩
theorem HOk.lt (x : HOk P w H h) (e : H a = some o) : a < h.objs.size := (x a o e).lt
theorem HOk.fresh (x : HOk P w H h) (e : h.objs.size ≤ a) : H a = none := by
  cases q : H a with
  | none => rfl
  | some u => exact absurd (Nat.lt_of_lt_of_le (x.lt q) e) (Nat.lt_irrefl _)
theorem HOk.kept (x : HOk P w H h) (k : ∀ b u, h.get? b = some u → h'.get? b = some u) : HOk P w H h' := fun a o e =>
  (x a o e).stay (fun b u _ q => k b u q) (fun _ q => q) fun _ _ q => q
theorem HOk.laid (x : HOk P w H h) (k : ∀ b u, h.get? b = some u → h'.get? b = some u) (hp : h.objs.size ≤ a) (new : c7 P w (upd H a o) h' a o) : HOk P w (upd H a o) h' := fun b u e => by
  have hn := x.fresh hp
  by_cases hb : b = a
  · subst hb; rw [aT] at e; cases e; exact new
  · rw [aA hb] at e
    exact (x b u e).stay (fun c v _ q => k c v q) (fun c q => by rw [aA (a8 q hn)]; exact q) fun c xs q => by rw [aA (a8 q hn)]; exact q
end
def Rd (H : Hp) (a : Addr) (u : HO) : Prop := H a = some u ∨ ∃ o, H a = some (.frz o u)
theorem Rd.ok {P : Program} {w : World} {H : Hp} {h : Heap} {a : Addr} {u : HO} (r : Rd H a u) (x : HOk P w H h) : c7 P w H h a u := by
  rcases r with r | ⟨o, r⟩
  · exact x a u r
  · obtain ⟨_, q⟩ := x a _ r
    exact q
def Mut : Option HO → Prop
  | some (.lst _) => True
  | some (.dK _) => True
  | some (.dT _) => True
  | some (.set _ _) => True
  | some (.ins _ _ _) => True
  | some (.ext _) => True
  | _ => False
section
variable {P : Program} {w : World} {H : Hp} {h h' : Heap} {x e : Addr} {o' : HO}
theorem HOk.write (ok : HOk P w H h) (mu : Mut (H x)) (he : e = x ∨ H e = some (.own x)) (k : ∀ b u, b ≠ e → h.get? b = some u → h'.get? b = some u) (heo : ∃ u, h'.get? e = some u)
    (new : c7 P w (upd H x o') h' x o') : HOk P w (upd H x o') h' := fun b u q => by
  have nown : ∀ c y, H c = some (.own y) → c ≠ x := fun c y r z => by subst z; rw [r] at mu; exact mu
  have ntup : ∀ c xs, H c = some (.tup xs) → c ≠ x := fun c xs r z => by subst z; rw [r] at mu; exact mu
  by_cases hb : b = x
  · subst hb; rw [aT] at q; cases q; exact new
  · rw [aA hb] at q
    by_cases hbe : b = e
    · have q' : H b = some (.own x) := by
        rcases he with z | z
        · exact absurd (hbe.trans z) hb
        · rw [hbe]; exact z
      rw [q] at q'; cases q'
      obtain ⟨v, hv⟩ := heo
      exact ⟨v, by rw [hbe]; exact hv⟩
    · refine (ok b u q).stay (fun c v hc r => k c v ?_ r) (fun c r => by rw [aA (nown c b r)]; exact r) fun c xs r => by rw [aA (ntup c xs r)]; exact r
      rcases hc with rfl | hc
      · exact hbe
      · rintro rfl
        rcases he with z | z
        · exact nown c b hc z
        · rw [hc] at z; cases z; exact hb rfl
end
structure Un (fs ex : List Addr) (H H' : Hp) (h h' : Heap) : Prop where
  keep : ∀ b o, h.get? b = some o → H b = none → b ∉ fs → b ∉ ex → h'.get? b = some o
  slot : ∀ b o, h.get? b = some o → H b = none → b ∈ fs → b ∉ ex → ∃ sl, h'.get? b = some { o with slots := sl }
  free : ∀ b o, h.get? b = some o → H b = none → b ∉ ex → H' b = none
  there : ∀ b o, h.get? b = some o → b ∉ ex → ∃ o', h'.get? b = some o'
  tups : ∀ b xs, H b = some (.tup xs) → H' b = some (.tup xs)
  frzs : ∀ b o u, H b = some (.frz o u) → H' b = some (.frz o u)
  tbls : ∀ b ps, H b = some (.tbl ps) → ∃ more, H' b = some (.tbl (ps ++ more))
section
variable {fs fs' ex ex' : List Addr} {H H1 H2 : Hp} {h h1 h2 h' : Heap} {a x e : Addr} {o : HO}
theorem Un.any (u : Un fs ex H H1 h h1) {b : Addr} {ob : Obj} (q : h.get? b = some ob) (n : H b = none) (hx : b ∉ ex) : ∃ sl, h1.get? b = some { ob with slots := sl } := by
  by_cases hb : b ∈ fs
  · exact u.slot b ob q n hb hx
  · exact ⟨ob.slots, u.keep b ob q n hb hx⟩
theorem Un.kept (k : ∀ b u, h.get? b = some u → h'.get? b = some u) : Un fs ex H H h h' :=
  ⟨fun b ob q _ _ _ => k b ob q, fun b ob q _ _ _ => ⟨ob.slots, k b ob q⟩, fun _ _ _ n _ => n, fun b ob q _ => ⟨ob, k b ob q⟩, fun _ _ q => q, fun _ _ _ q => q, fun _ ps q => ⟨#[], by rw [q]; simp⟩⟩
theorem Un.refl : Un fs ex H H h h := Un.kept fun _ _ q => q
theorem Un.laid (k : ∀ b u, h.get? b = some u → h'.get? b = some u) (hp : h.objs.size ≤ a) (hn : H a = none) : Un fs ex H (upd H a o) h h' where
  keep := fun b u q _ _ _ => k b u q
  slot := fun b u q _ _ _ => ⟨u.slots, k b u q⟩
  free := fun b u q n _ => by rw [aA (Nat.ne_of_lt (Nat.lt_of_lt_of_le (Heap.lt_size q) hp))]; exact n
  there := fun b u q _ => ⟨u, k b u q⟩
  tups := fun b xs q => by rw [aA (a8 q hn)]; exact q
  frzs := fun b u xs q => by rw [aA (a8 q hn)]; exact q
  tbls := fun b ps q => ⟨#[], by rw [aA (a8 q hn), q]; simp⟩
theorem Un.write (mu : Mut (H x)) (he : e = x ∨ H e = some (.own x)) (k : ∀ b u, b ≠ e → h.get? b = some u → h'.get? b = some u) (heo : ∃ u, h'.get? e = some u) : Un fs ex H (upd H x o) h h' := by
  have hx : ∀ b, H b = none → b ≠ x := fun b n z => by subst z; rw [n] at mu; exact mu
  have hb : ∀ b, H b = none → b ≠ e := fun b n z => by
    subst z
    rcases he with r | r
    · exact hx b n r
    · rw [n] at r; cases r
  have hm : ∀ b u, H b = some u → ¬ Mut (some u) → b ≠ x := fun b u q nm z => by subst z; rw [q] at mu; exact nm mu
  refine ⟨fun b u q n _ _ => k b u (hb b n) q, fun b u q n _ _ => ⟨u.slots, k b u (hb b n) q⟩, fun b u q n _ => by rw [aA (hx b n)]; exact n, fun b u q _ => ?_,
    fun b xs q => by rw [aA (hm b _ q fun z => z)]; exact q, fun b u xs q => by rw [aA (hm b _ q fun z => z)]; exact q, fun b ps q => ⟨#[], by rw [aA (hm b _ q fun z => z), q]; simp⟩⟩
  by_cases hbe : b = e
  · subst hbe; exact heo
  · exact ⟨u, k b u hbe q⟩
end
def trk (h : Heap) (H : Hp) : List Addr := (List.range h.objs.size).filter fun a => (H a).isSome
def sF (h : Heap) (H : Hp) : Heap := PySem.W.hideAll h (trk h H)
theorem zT (h : Heap) (H : Hp) : (sF h H).objs.size = h.objs.size := PySem.W.hideAll_size _ _
theorem BI {h : Heap} {H : Hp} {b : Addr} {o : Obj} (e : h.get? b = some o) (n : H b = none) : (sF h H).get? b = some o :=
  PySem.W.hideAll_get _ e fun hm => by
    have q : (H b).isSome = true := (List.mem_filter.mp hm).2
    rw [n] at q; simp at q
theorem DY {h : Heap} {H : Hp} {b : Addr} {o : Obj} (e : (sF h H).get? b = some o) : h.get? b = some o ∧ H b = none := by
  have e' : h.get? b = some o := PySem.W.of_hideAll (trk h H) e
  refine ⟨e', ?_⟩
  cases q : H b with
  | none => rfl
  | some x =>
    have hm : b ∈ trk h H := List.mem_filter.mpr ⟨List.mem_range.mpr (Heap.lt_size e'), by simp [q]⟩
    have z : (sF h H).get? b = none := PySem.W.hideAll_none (trk h H) hm
    rw [z] at e; cases e
def DZ (g h : Heap) (L : Addr) : List (Addr × Obj) := (List.range h.objs.size).filterMap fun a => if a = L ∨ (g.get? a).isSome = true then none else (h.get? a).map fun o => (a, o)
def rest (g h : Heap) (L d : Addr) : List (Addr × Obj) := (DZ g h L).filter fun p => decide (p.1 ≠ d)
end L2
namespace L2
open PySem PySem.Spec PyProof.Rows
structure Mod (K : PySem.W.Frag) (mg : Str → Option Value) (base : Heap) : Prop where
  kin : K.In base
  glob : base.Ns mainGlobals mg
  blt : ∃ mb, base.Ns builtinsNs mb ∧ ∀ x : Str, x ≠ "__name__" → mb x = bootBuiltins x
  nolimit : base.NoLimit
structure Cx where
  prog : Program
  w : World
  K : PySem.W.Frag
  mg : Str → Option Value
  base : Heap
  A : Around
  N : List Str
  s₀ : Shared
  H₀ : Hp
  env : Env
  outer : List Env
  stack : List Env
  ex : List Addr
  fn : Str → Bool
  calm : Bool
  pn : List (Addr × Obj)
  xe : Value → Shared → Prop
def frs (l : List Env) : List Addr := l.filterMap (·.frame)
abbrev Cx.fs (X : Cx) : List Addr := frs X.outer
def Vis (sc : Scope) (x : Str) : Prop := sc.names.lookup x = some .local ∨ sc.names.lookup x = some .cell ∨ sc.names.lookup x = some .free
def Loc (sc : Scope) (x : Str) : Prop := sc.names.lookup x = some .local ∨ sc.names.lookup x = some .cell
def IW (env : Env) (h : Heap) (m : Str → Option Value) (x : Str) (u : Value) : Prop :=
  (env.kindOf x = some .local ∧ m x = some u) ∨ ((env.kindOf x = some .cell ∨ env.kindOf x = some .free) ∧ ∃ c, env.cells.lookup x = some c ∧ h.IsCell c (some u))
structure Cx.Ok (X : Cx) : Prop where
  mod : Mod X.K X.mg X.base
  kind : X.env.scope.kind = .function
  glob : X.env.globals = mainGlobals
  blt : X.env.builtins = builtinsNs
  above : X.s₀.heap.objs.size ≤ X.env.locals
  inj : ∀ x y c, X.env.cells.lookup x = some c → X.env.cells.lookup y = some c → x = y
  has : ∀ x, (X.env.kindOf x = some .cell ∨ X.env.kindOf x = some .free) → ∃ c, X.env.cells.lookup x = some c
  cab : ∀ x c, X.fn x = true → X.env.cells.lookup x = some c → X.s₀.heap.objs.size ≤ c
  hd : X.calm = true → X.A.handled = none
  frames : X.A.frames = some X.stack
  stk : X.stack = X.outer ∨ (X.stack = X.env :: X.outer ∧ X.env.frame = some X.env.locals)
  exf : ∀ b ∈ X.ex, b ≠ X.env.locals ∧ ∀ x c, X.env.cells.lookup x = some c → c ≠ b
  bs : ∀ b o, X.base.get? b = some o → X.s₀.heap.get? b = some o ∧ X.H₀ b = none
  bsz : X.base.objs.size ≤ X.s₀.heap.objs.size
  noex : ∀ b o, X.base.get? b = some o → b ∉ X.ex
  exfs : ∀ b ∈ X.ex, b ∉ X.fs
  funs : X.s₀.heap.FunFrames X.base X.outer
  frf : ∀ b ∈ X.fs, X.H₀ b = none
structure Inv (X : Cx) (pins : List (Addr × Obj)) (σ : List (Option V)) (H : Hp) (s : Shared) : Prop where
  ok : X.Ok
  os : s.os = X.s₀.os
  bare : AllBare s.gens
  base : Un X.fs X.ex X.H₀ H X.s₀.heap s.heap
  loc : ∃ m, s.heap.Ns X.env.locals m ∧ ∀ (i : Nat) (x : Str) (v : V), X.N[i]? = some x → σ[i]? = some (some v) → Vis X.env.scope x → ∃ u, bB v u ∧ IW X.env s.heap m x u
  cell : ∀ x c, X.env.cells.lookup x = some c → ∃ v, s.heap.IsCell c v
  free : H X.env.locals = none
  freeC : ∀ x c, X.env.cells.lookup x = some c → H c = none
  pin : ∀ p ∈ X.pn ++ pins, s.heap.get? p.1 = some p.2 ∧ H p.1 = none ∧ p.1 ≠ X.env.locals ∧ p.1 ∉ X.fs ∧ ∀ v, p.2.data ≠ .cell v
  hok : HOk X.prog X.w H s.heap
  len : σ.length = X.N.length
section
variable {X : Cx} {pins : List (Addr × Obj)} {σ : List (Option V)} {H H' : Hp} {s : Shared} {h' : Heap}
theorem Cx.Ok.nofr (ok : X.Ok) {b : Addr} {o : Obj} (e : X.base.get? b = some o) : b ∉ X.fs := fun hb => by
  have := (ok.funs.mem hb).1
  rw [e] at this; cases this
theorem Inv.bs (I : Inv X pins σ H s) : ∀ b o, X.base.get? b = some o → s.heap.get? b = some o ∧ H b = none := fun b o e =>
  ⟨I.base.keep b o (I.ok.bs b o e).1 (I.ok.bs b o e).2 (I.ok.nofr e) (I.ok.noex b o e), I.base.free b o (I.ok.bs b o e).1 (I.ok.bs b o e).2 (I.ok.noex b o e)⟩
theorem Inv.bk (I : Inv X pins σ H s) : ∀ b o, X.base.get? b = some o → s.heap.get? b = some o := fun b o e => (I.bs b o e).1
theorem Inv.mod (I : Inv X pins σ H s) : Mod X.K X.mg X.base := I.ok.mod
theorem Inv.kIn (I : Inv X pins σ H s) : X.K.In s.heap := I.ok.mod.kin.keeps I.bk
theorem Inv.lt (I : Inv X pins σ H s) : X.env.locals < s.heap.objs.size := let ⟨_, hn, _⟩ := I.loc; hn.lt
theorem Inv.sz (I : Inv X pins σ H s) : X.s₀.heap.objs.size ≤ s.heap.objs.size := Nat.le_trans I.ok.above (Nat.le_of_lt I.lt)
theorem Inv.nofs (I : Inv X pins σ H s) {a : Addr} (h : s.heap.objs.size ≤ a) : a ∉ X.fs := fun hb => by
  obtain ⟨_, o, ho, _⟩ := I.ok.funs.mem hb
  exact absurd (Nat.lt_of_lt_of_le (Heap.lt_size ho) (Nat.le_trans I.sz h)) (Nat.lt_irrefl _)
theorem Inv.cne (I : Inv X pins σ H s) : ∀ x c, X.env.cells.lookup x = some c → c ≠ X.env.locals := fun x c e z => by
  obtain ⟨v, o, ho, hd⟩ := I.cell x c e
  obtain ⟨m, ⟨o', es, ep, ho', hd', _⟩, _⟩ := I.loc
  rw [z, ho'] at ho; cases ho; rw [hd'] at hd; cases hd
theorem Inv.funs (I : Inv X pins σ H s) : s.heap.FunFrames X.base X.outer := by
  have all : ∀ (l : List Env), (∀ b ∈ frs l, b ∈ X.fs) → X.s₀.heap.FunFrames X.base l → s.heap.FunFrames X.base l := by
    intro l
    induction l with
    | nil => intro _ _; trivial
    | cons env r ih =>
      intro hs hl
      obtain ⟨hk, ⟨L, o, hf, hn, ho, hd⟩, hr⟩ := hl
      have hL : L ∈ X.fs := hs L (by unfold frs; rw [List.filterMap_cons, hf]; exact List.mem_cons_self)
      obtain ⟨sl, e⟩ := I.base.slot L o ho (I.ok.frf L hL) hL fun z => I.ok.exfs L z hL
      exact ⟨hk, ⟨L, _, hf, hn, e, hd⟩, ih (fun b hb => hs b (by unfold frs; rw [List.filterMap_cons, hf]; exact List.mem_cons_of_mem _ hb)) hr⟩
  exact all X.outer (fun _ hb => hb) I.ok.funs
theorem Inv.stack (I : Inv X pins σ H s) : s.heap.FunFrames X.base X.stack := by
  rcases I.ok.stk with e | ⟨e, hf⟩
  · rw [e]; exact I.funs
  · rw [e]
    obtain ⟨m, hn, _⟩ := I.loc
    refine .cons (by rw [I.ok.kind]; decide) hf hn ?_ I.funs
    exact Heap.get?_none_of_le (Nat.le_trans I.ok.bsz I.ok.above)
theorem Inv.stkSub (I : Inv X pins σ H s) : ∀ b ∈ frs X.stack, b ∈ X.env.locals :: X.fs := fun b hb => by
  rcases I.ok.stk with e | ⟨e, hf⟩
  · rw [e] at hb; exact List.mem_cons_of_mem _ hb
  · rw [e] at hb
    unfold frs at hb
    rw [List.filterMap_cons, hf] at hb
    exact hb
theorem Inv.stkFree (I : Inv X pins σ H s) : ∀ b ∈ frs X.stack, H b = none := fun b hb => by
  rcases List.mem_cons.mp (I.stkSub b hb) with e | hb
  · rw [e]; exact I.free
  · obtain ⟨_, o, ho, _⟩ := I.ok.funs.mem hb
    exact I.base.free b o ho (I.ok.frf b hb) fun z => I.ok.exfs b z hb
theorem Inv.step {g' : Array GenState} {t' : Nat} {d' : Drawn} {ch : List Addr} (I : Inv X pins σ H s)
    (hch : ∀ b ∈ ch, (b ∈ X.ex ∨ X.s₀.heap.objs.size ≤ b) ∧ b ≠ X.env.locals ∧ (∀ x c, X.env.cells.lookup x = some c → c ≠ b) ∧ ∀ p ∈ X.pn ++ pins, p.1 ≠ b)
    (keep : ∀ b o, b ≠ X.env.locals → b ∉ X.fs → b ∉ ch → s.heap.get? b = some o → H b = none → h'.get? b = some o)
    (slot : ∀ b o, b ≠ X.env.locals → b ∈ X.fs → b ∉ ch → s.heap.get? b = some o → H b = none → ∃ sl, h'.get? b = some { o with slots := sl }) (free : ∀ b o, b ∉ ch → s.heap.get? b = some o → H b = none → H' b = none)
    (there : ∀ b o, b ∉ ch → s.heap.get? b = some o → ∃ o', h'.get? b = some o')
    (tups : ∀ b xs, H b = some (.tup xs) → H' b = some (.tup xs)) (frzs : ∀ b o u, H b = some (.frz o u) → H' b = some (.frz o u)) (tbls : ∀ b ps, H b = some (.tbl ps) → ∃ more, H' b = some (.tbl (ps ++ more)))
    (ns : ∀ m, s.heap.Ns X.env.locals m → h'.Ns X.env.locals m) (hok : HOk X.prog X.w H' h') (hg : AllBare g') :
    Inv X pins σ H' { s with heap := h', gens := g', drawn := d', toks := t' } := by
  have neL : ∀ b o, X.s₀.heap.get? b = some o → b ≠ X.env.locals := fun b o e => Nat.ne_of_lt (Nat.lt_of_lt_of_le (Heap.lt_size e) I.ok.above)
  have neC : ∀ b o, X.s₀.heap.get? b = some o → b ∉ X.ex → b ∉ ch := fun b o e hx hb => by
    rcases (hch b hb).1 with z | z
    · exact hx z
    · exact absurd (Nat.lt_of_lt_of_le (Heap.lt_size e) z) (Nat.lt_irrefl _)
  have cellK : ∀ x c, X.env.cells.lookup x = some c → ∀ v, s.heap.IsCell c v → h'.IsCell c v := fun x c e v ⟨o, ho, hd⟩ => by
    have nch : c ∉ ch := fun z => (hch c z).2.2.1 x c e rfl
    by_cases hc : c ∈ X.fs
    · obtain ⟨sl, q⟩ := slot c o (I.cne x c e) hc nch ho (I.freeC x c e)
      exact ⟨_, q, hd⟩
    · exact ⟨o, keep c o (I.cne x c e) hc nch ho (I.freeC x c e), hd⟩
  refine ⟨I.ok, I.os, hg, ⟨fun b o e n hb hx => ?_, fun b o e n hb hx => ?_, fun b o e n hx => ?_, fun b o e hx => ?_, fun b xs e => tups b xs (I.base.tups b xs e), fun b o xs e => frzs b o xs (I.base.frzs b o xs e), fun b ps e => ?_⟩, ?_, fun x c e => ?_, ?_, fun x c e => ?_, fun p hp => ?_, hok, I.len⟩
  · exact keep b o (neL b o e) hb (neC b o e hx) (I.base.keep b o e n hb hx) (I.base.free b o e n hx)
  · obtain ⟨sl, e1⟩ := I.base.slot b o e n hb hx
    obtain ⟨sl', e2⟩ := slot b _ (neL b o e) hb (neC b o e hx) e1 (I.base.free b o e n hx)
    exact ⟨sl', e2⟩
  · obtain ⟨o', e1⟩ := I.base.there b o e hx
    exact free b o' (neC b o e hx) e1 (I.base.free b o e n hx)
  · obtain ⟨o', e1⟩ := I.base.there b o e hx
    exact there b o' (neC b o e hx) e1
  · obtain ⟨m1, e1⟩ := I.base.tbls b ps e
    obtain ⟨m2, e2⟩ := tbls b _ e1
    exact ⟨m1 ++ m2, by rw [e2, Array.append_assoc]⟩
  · obtain ⟨m, hn, hl⟩ := I.loc
    refine ⟨m, ns m hn, fun i x v e1 e2 e3 => ?_⟩
    obtain ⟨u, r, l⟩ := hl i x v e1 e2 e3
    refine ⟨u, r, ?_⟩
    rcases l with l | ⟨k, c, e, z⟩
    · exact .inl l
    · exact .inr ⟨k, c, e, cellK x c e _ z⟩
  · obtain ⟨v, z⟩ := I.cell x c e
    exact ⟨v, cellK x c e v z⟩
  · obtain ⟨m, ⟨o, _, _, ho, _⟩, _⟩ := I.loc
    exact free _ o (fun z => (hch _ z).2.1 rfl) ho I.free
  · obtain ⟨v, o, ho, hd⟩ := I.cell x c e
    exact free c o (fun z => (hch c z).2.2.1 x c e rfl) ho (I.freeC x c e)
  · obtain ⟨e, n, ne, nf, d⟩ := I.pin p hp
    have nch : p.1 ∉ ch := fun z => (hch p.1 z).2.2.2 p hp rfl
    exact ⟨keep p.1 p.2 ne nf nch e n, free p.1 p.2 nch e n, ne, nf, d⟩
theorem Inv.un {t' : Nat} (I : Inv X pins σ H s) (u : Un X.fs [] H H' s.heap h') (hok : HOk X.prog X.w H' h') : Inv X pins σ H' { s with heap := h', toks := t' } := by
  obtain ⟨m, ⟨o, es, ep, ho, r⟩, _⟩ := id I.loc
  obtain ⟨sl, hL⟩ := u.any ho I.free (by simp)
  exact I.step (g' := s.gens) (d' := s.drawn) (ch := []) (fun _ z => nomatch z) (fun b o _ hb _ e n => u.keep b o e n hb (by simp)) (fun b o _ hb _ e n => u.slot b o e n hb (by simp)) (fun b o _ e n => u.free b o e n (by simp)) (fun b o _ e => u.there b o e (by simp)) u.tups u.frzs u.tbls (fun m' hm => by
    obtain ⟨o', es', ep', ho', r'⟩ := hm
    rw [ho] at ho'; cases ho'
    exact ⟨_, es', ep', hL, r'⟩) hok I.bare
theorem Inv.call {g' : Array GenState} {t' : Nat} {d' : Drawn} {ch : List Addr} (I : Inv X pins σ H s) (u : Un (frs X.stack) ch H H' s.heap h') (hok : HOk X.prog X.w H' h') (hg : AllBare g')
    (hch : ∀ b ∈ ch, (b ∈ X.ex ∨ X.s₀.heap.objs.size ≤ b) ∧ b ≠ X.env.locals ∧ (∀ x c, X.env.cells.lookup x = some c → c ≠ b) ∧ ∀ p ∈ X.pn ++ pins, p.1 ≠ b) :
    Inv X pins σ H' { s with heap := h', gens := g', drawn := d', toks := t' } := by
  obtain ⟨m, ⟨o, es, ep, ho, r⟩, _⟩ := id I.loc
  obtain ⟨sl, hL⟩ := u.any ho I.free fun z => (hch _ z).2.1 rfl
  exact I.step (ch := ch) hch (fun b o hL hb hc e n => u.keep b o e n (fun z => (List.mem_cons.mp (I.stkSub b z)).elim hL hb) hc) (fun b o _ _ hc e n => u.any e n hc) (fun b o hc e n => u.free b o e n hc) (fun b o hc e => u.there b o e hc) u.tups u.frzs u.tbls (fun m' hm => by
    obtain ⟨o', es', ep', ho', r'⟩ := hm
    rw [ho] at ho'; cases ho'
    exact ⟨_, es', ep', hL, r'⟩) hok hg
theorem Inv.turned {t' : Nat} {it : Addr} (I : Inv X pins σ H s) (k : ∀ b o, b ≠ it → s.heap.get? b = some o → h'.get? b = some o) (hn : H it = none) (hL : it ≠ X.env.locals)
    (h1 : it ∈ X.ex ∨ X.s₀.heap.objs.size ≤ it) (h2 : ∀ x c, X.env.cells.lookup x = some c → c ≠ it) (h3 : ∀ p ∈ X.pn ++ pins, p.1 ≠ it) : Inv X pins σ H { s with heap := h', toks := t' } := by
  have nit : ∀ b u, H b = some u → b ≠ it := fun b u e z => by rw [z, hn] at e; cases e
  refine I.step (g' := s.gens) (d' := s.drawn) (ch := [it]) (fun b hb => ?_) (fun b o _ _ hc e _ => k b o (fun z => hc (by simp [z])) e) (fun b o _ _ hc e _ => ⟨o.slots, k b o (fun z => hc (by simp [z])) e⟩) (fun _ _ _ _ n => n)
    (fun b o hc e => ⟨o, k b o (fun z => hc (by simp [z])) e⟩) (fun _ _ e => e) (fun _ _ _ e => e) (fun b ps e => ⟨#[], by rw [e]; simp⟩) (fun m hm => ?_) (fun b u e => ?_) I.bare
  · have e : b = it := by simpa using hb
    subst e
    exact ⟨h1, hL, h2, h3⟩
  · obtain ⟨o, es, ep, ho, r⟩ := hm
    exact ⟨o, es, ep, k _ o (Ne.symm hL) ho, r⟩
  · refine (I.hok b u e).stay (fun c v hc q => k c v ?_ q) (fun _ q => q) fun _ _ q => q
    rcases hc with z | z
    · rw [z]; exact nit b u e
    · exact nit c _ z
theorem Inv.tok (I : Inv X pins σ H s) (t : Nat) : Inv X pins σ H { s with toks := t } := I.un (h' := s.heap) (t' := t) Un.refl I.hok
theorem Inv.kept {t' : Nat} (I : Inv X pins σ H s) (k : ∀ b u, s.heap.get? b = some u → h'.get? b = some u) : Inv X pins σ H { s with heap := h', toks := t' } := I.un (Un.kept k) (I.hok.kept k)
theorem Inv.laid {a : Addr} {o : HO} {t' : Nat} (I : Inv X pins σ H s) (k : ∀ b u, s.heap.get? b = some u → h'.get? b = some u) (hp : s.heap.objs.size ≤ a) (new : c7 X.prog X.w (upd H a o) h' a o) :
    Inv X pins σ (upd H a o) { s with heap := h', toks := t' } := I.un (Un.laid k hp (I.hok.fresh hp)) (I.hok.laid k hp new)
theorem Inv.write {x e : Addr} {o : HO} {t' : Nat} (I : Inv X pins σ H s) (mu : Mut (H x)) (he : e = x ∨ H e = some (.own x)) (k : ∀ b u, b ≠ e → s.heap.get? b = some u → h'.get? b = some u) (heo : ∃ u, h'.get? e = some u)
    (new : c7 X.prog X.w (upd H x o) h' x o) : Inv X pins σ (upd H x o) { s with heap := h', toks := t' } := I.un (Un.write mu he k heo) (I.hok.write mu he k heo new)
theorem Inv.pins_of {pins' : List (Addr × Obj)} (I : Inv X pins σ H s) (h : ∀ p ∈ pins', s.heap.get? p.1 = some p.2 ∧ H p.1 = none ∧ p.1 ≠ X.env.locals ∧ p.1 ∉ X.fs ∧ ∀ v, p.2.data ≠ .cell v) : Inv X pins' σ H s :=
  ⟨I.ok, I.os, I.bare, I.base, I.loc, I.cell, I.free, I.freeC, fun p hp => (List.mem_append.mp hp).elim (fun z => I.pin p (List.mem_append_left _ z)) (h p), I.hok, I.len⟩
theorem mY {N : List Str} (hN : N.Nodup) {i j : Nat} {x : Str} (a : N[i]? = some x) (b : N[j]? = some x) : i = j := by
  obtain ⟨h1, e1⟩ := List.getElem?_eq_some_iff.mp a
  obtain ⟨h2, e2⟩ := List.getElem?_eq_some_iff.mp b
  exact (List.getElem_inj hN).mp (e1.trans e2.symm)
theorem qX {M : Model} {A : Around} {E : Value → Shared → Prop} {i : Nat} {x : Str} {v : V} {u : Value} {Q : Unit → Shared → Prop} (I : Inv X pins σ H s) (hN : X.N.Nodup) (hi : X.N[i]? = some x) (hx : Loc X.env.scope x) (r : bB v u)
    (h : ∀ s', Inv X pins (σ.set i (some v)) H s' → (∃ a, Heap.SameBut a s.heap s'.heap ∧ (a = X.env.locals ∨ X.env.cells.lookup x = some a)) → Q () s') (hf : X.fn x = true ∨ X.env.scope.names.lookup x = some .local := by first | exact .inl rfl | exact .inr rfl | assumption) : wpAny M A (storeName X.env x u) Q E s := by
  obtain ⟨m, hn, hl⟩ := id I.loc
  have hcls : (X.env.scope.kind == .class || (X.env.scope.kind == .module && X.env.locals != X.env.globals)) = false := by rw [I.ok.kind]; rfl
  have hiσ : i < σ.length := by rw [I.len]; exact (List.getElem?_eq_some_iff.mp hi).1
  have cne := I.cne
  have tracked : ∀ {a : Addr} {h' : Heap}, (∃ o, s.heap.get? a = some o ∧ H a = none) → Heap.SameBut a s.heap h' → HOk X.prog X.w H h' := fun {a h'} ha hs b ob e => by
    obtain ⟨_, _, hfree⟩ := ha
    refine (I.hok b ob e).stay (fun c w' hc q => (hs.2 c ?_).trans q) (fun _ q => q) fun _ _ q => q
    rintro rfl
    rcases hc with rfl | hc
    · rw [hfree] at e; cases e
    · rw [hfree] at hc; cases hc
  rcases hx with hk | hk
  · refine wpAny_storeName_local hk hn (fun h' hn' hs => ?_) hcls
    obtain ⟨oL, _, _, hoL, _⟩ := id hn
    refine h _ ⟨I.ok, I.os, I.bare, ⟨fun b o e n hb hx => ?_, fun b o e n hb hx => ?_, I.base.free, fun b o e hx => ?_, I.base.tups, I.base.frzs, I.base.tbls⟩, ⟨_, hn', fun j y v' e1 e2 e3 => ?_⟩, fun y c e => ?_, I.free, I.freeC, fun p hp => ?_, tracked ⟨oL, hoL, I.free⟩ hs, by simpa using I.len⟩ ⟨_, hs, .inl rfl⟩
    · exact (hs.2 b (Nat.ne_of_lt (Nat.lt_of_lt_of_le (Heap.lt_size e) I.ok.above))).trans (I.base.keep b o e n hb hx)
    · obtain ⟨sl, e1⟩ := I.base.slot b o e n hb hx
      exact ⟨sl, (hs.2 b (Nat.ne_of_lt (Nat.lt_of_lt_of_le (Heap.lt_size e) I.ok.above))).trans e1⟩
    · obtain ⟨o', e1⟩ := I.base.there b o e hx
      exact ⟨o', (hs.2 b (Nat.ne_of_lt (Nat.lt_of_lt_of_le (Heap.lt_size e) I.ok.above))).trans e1⟩
    · by_cases hj : j = i
      · subst hj
        rw [hi] at e1; cases e1
        rw [List.getElem?_set_self hiσ] at e2
        cases e2
        exact ⟨u, r, .inl ⟨hk, by simp⟩⟩
      · rw [List.getElem?_set_ne (Ne.symm hj)] at e2
        obtain ⟨u', r', q⟩ := hl j y v' e1 e2 e3
        refine ⟨u', r', ?_⟩
        rcases q with ⟨k, e⟩ | ⟨k, c, e, z⟩
        · refine .inl ⟨k, ?_⟩
          have : y ≠ x := fun e => hj (mY hN e1 (e ▸ hi))
          simp [this, e]
        · exact .inr ⟨k, c, e, z.sameBut hs (cne y c e)⟩
    · obtain ⟨w', z⟩ := I.cell y c e
      exact ⟨w', z.sameBut hs (cne y c e)⟩
    · obtain ⟨e, n, ne, nf, d⟩ := I.pin p hp
      exact ⟨(hs.2 p.1 ne).trans e, n, ne, nf, d⟩
  · have hfn : X.fn x = true := by
      rcases hf with z | z
      · exact z
      · rw [z] at hk; cases hk
    obtain ⟨c, hc⟩ := I.ok.has x (.inl hk)
    obtain ⟨w', z⟩ := I.cell x c hc
    refine wpAny_storeName_cell I.ok.kind hk hc z (fun h' hc' hs => ?_)
    obtain ⟨oc, hoc, hocd⟩ := id z
    refine h { s with heap := h' } ⟨I.ok, I.os, I.bare, ⟨fun b o e n hb hx => ?_, fun b o e n hb hx => ?_, I.base.free, fun b o e hx => ?_, I.base.tups, I.base.frzs, I.base.tbls⟩, ⟨m, hn.sameBut hs (Ne.symm (cne x c hc)), fun j y v' e1 e2 e3 => ?_⟩, fun y c' e => ?_, I.free, I.freeC, fun p hp => ?_, tracked ⟨oc, hoc, I.freeC x c hc⟩ hs, by simpa using I.len⟩ ⟨c, hs, .inr hc⟩
    · exact (hs.2 b (Nat.ne_of_lt (Nat.lt_of_lt_of_le (Heap.lt_size e) (I.ok.cab x c hfn hc)))).trans (I.base.keep b o e n hb hx)
    · obtain ⟨sl, e1⟩ := I.base.slot b o e n hb hx
      exact ⟨sl, (hs.2 b (Nat.ne_of_lt (Nat.lt_of_lt_of_le (Heap.lt_size e) (I.ok.cab x c hfn hc)))).trans e1⟩
    · obtain ⟨o', e1⟩ := I.base.there b o e hx
      exact ⟨o', (hs.2 b (Nat.ne_of_lt (Nat.lt_of_lt_of_le (Heap.lt_size e) (I.ok.cab x c hfn hc)))).trans e1⟩
    · by_cases hj : j = i
      · subst hj
        rw [hi] at e1; cases e1
        rw [List.getElem?_set_self hiσ] at e2
        cases e2
        exact ⟨u, r, .inr ⟨.inl hk, c, hc, hc'⟩⟩
      · rw [List.getElem?_set_ne (Ne.symm hj)] at e2
        obtain ⟨u', r', q⟩ := hl j y v' e1 e2 e3
        refine ⟨u', r', ?_⟩
        rcases q with q | ⟨k, c', e, z'⟩
        · exact .inl q
        · refine .inr ⟨k, c', e, z'.sameBut hs ?_⟩
          rintro rfl
          exact hj (mY hN e1 (I.ok.inj _ _ _ e hc ▸ hi))
    · by_cases hcc : c' = c
      · subst hcc; exact ⟨_, hc'⟩
      · obtain ⟨w2, z2⟩ := I.cell y c' e
        exact ⟨w2, z2.sameBut hs hcc⟩
    · obtain ⟨e, n, ne, nf, d⟩ := I.pin p hp
      refine ⟨(hs.2 p.1 ?_).trans e, n, ne, nf, d⟩
      intro q
      rw [q, hoc] at e
      have q' : oc = p.2 := Option.some.inj e
      exact d w' (by rw [← q']; exact hocd)
theorem mZ {M : Model} {A : Around} {E : Value → Shared → Prop} {i : Nat} {x : Str} {v : V} {u : Value} {Q : Unit → Shared → Prop} (I : Inv X pins σ H s) (hN : X.N.Nodup) (hi : X.N[i]? = some x) (hx : Loc X.env.scope x) (r : bB v u)
    (h : ∀ s', Inv X pins (σ.set i (some v)) H s' → Q () s') (hf : X.fn x = true ∨ X.env.scope.names.lookup x = some .local := by first | exact .inl rfl | exact .inr rfl | assumption) : wpAny M A (storeName X.env x u) Q E s :=
  qX I hN hi hx r (fun s' I' _ => h s' I') hf
theorem Inv.call' {s' : Shared} {ch : List Addr} (I : Inv X pins σ H s) (ho : s'.os = s.os) (u : Un (frs X.stack) ch H H' s.heap s'.heap) (hok : HOk X.prog X.w H' s'.heap) (hg : AllBare s'.gens)
    (hch : ∀ b ∈ ch, (b ∈ X.ex ∨ X.s₀.heap.objs.size ≤ b) ∧ b ≠ X.env.locals ∧ (∀ x c, X.env.cells.lookup x = some c → c ≠ b) ∧ ∀ p ∈ X.pn ++ pins, p.1 ≠ b) : Inv X pins σ H' s' := by
  obtain ⟨h', g', d', t', o'⟩ := s'
  have e : o' = s.os := ho
  subst e
  exact I.call (g' := g') (t' := t') (d' := d') u hok hg hch
end
abbrev XK := Value → Option Addr → Hp → Prop
abbrev St := List (Option V)
abbrev VK := V → Hp → Prop
abbrev TE := St → Hp → VK → Prop
abbrev TT := St → Hp → (Bool → Hp → Prop) → Prop
abbrev TA := St → Hp → (List V → Hp → Prop) → Prop
structure m4 where
  nx : St → Hp → Prop
  rt : VK
  bk : St → Hp → Prop := fun _ _ => False
  ct : St → Hp → Prop := fun _ _ => False
abbrev TS := m4 → St → Hp → Prop
def EP (X : Cx) (pins : List (Addr × Obj)) (σ : St) (Q : VK) (u : Value) (s' : Shared) : Prop := ∃ v H', Inv X pins σ H' s' ∧ bB v u ∧ Q v H'
def TP (X : Cx) (pins : List (Addr × Obj)) (σ : St) (Q : Bool → Hp → Prop) (b : Bool) (s' : Shared) : Prop := ∃ H', Inv X pins σ H' s' ∧ Q b H'
def AP (X : Cx) (pins : List (Addr × Obj)) (σ : St) (Q : List V → Hp → Prop) (us : List Value) (s' : Shared) : Prop := ∃ vs H', Inv X pins σ H' s' ∧ aV vs us ∧ Q vs H'
def SP (X : Cx) (pins : List (Addr × Obj)) (D : m4) (f : Flow) (s' : Shared) : Prop :=
  match f with
  | .next => ∃ σ' H', Inv X pins σ' H' s' ∧ D.nx σ' H'
  | .brk => ∃ σ' H', Inv X pins σ' H' s' ∧ D.bk σ' H'
  | .cont => ∃ σ' H', Inv X pins σ' H' s' ∧ D.ct σ' H'
  | .ret u => ∃ v σ' H', Inv X pins σ' H' s' ∧ bB v u ∧ D.rt v H'
def PE (X : Cx) (e : Expr) (t : TE) : Prop :=
  ∀ (pins : List (Addr × Obj)) (s : Shared) (σ : St) (H : Hp) (Q : VK), Inv X pins σ H s → t σ H Q → wpAny (model X.prog X.w) X.A (eval e X.env) (EP X pins σ Q) X.xe s
def PT (X : Cx) (e : Expr) (t : TT) : Prop :=
  ∀ (pins : List (Addr × Obj)) (s : Shared) (σ : St) (H : Hp) (Q : Bool → Hp → Prop), Inv X pins σ H s → t σ H Q → wpAny (model X.prog X.w) X.A (isTrue e X.env (eval e X.env)) (TP X pins σ Q) X.xe s
def PW (X : Cx) (e : Expr) (t : TT) : Prop :=
  ∀ (whole : Sem Value) (pins : List (Addr × Obj)) (s : Shared) (σ : St) (H : Hp) (Q : Bool → Hp → Prop), Inv X pins σ H s → t σ H Q → wpAny (model X.prog X.w) X.A (isTrue e X.env whole) (TP X pins σ Q) X.xe s
theorem PW.pt {X : Cx} {e : Expr} {t : TT} (h : PW X e t) : PT X e t := h _
def PA (X : Cx) (es : List Expr) (t : TA) : Prop :=
  ∀ (pos : Pos) (pins : List (Addr × Obj)) (s : Shared) (σ : St) (H : Hp) (Q : List V → Hp → Prop), Inv X pins σ H s → t σ H Q → wpAny (model X.prog X.w) X.A (spliced (backTo pos (starEach es X.env))) (AP X pins σ Q) X.xe s
def PS (X : Cx) (st : Stmt) (t : TS) : Prop :=
  ∀ (pins : List (Addr × Obj)) (s : Shared) (σ : St) (H : Hp) (D : m4), Inv X pins σ H s → t D σ H → wpAny (model X.prog X.w) X.A (exec st X.env) (SP X pins D) X.xe s
def PSs (X : Cx) (st : List Stmt) (t : TS) : Prop :=
  ∀ (pins : List (Addr × Obj)) (s : Shared) (σ : St) (H : Hp) (D : m4), Inv X pins σ H s → t D σ H → wpAny (model X.prog X.w) X.A (execs st X.env) (SP X pins D) X.xe s
theorem thn {α : Type} {t : Sem α} {Q Q' : α → Shared → Prop} {M : Model} {A : Around} {E : Value → Shared → Prop} {s : Shared} (h : wpAny M A t Q E s) (hQ : ∀ a s, Q a s → Q' a s) : wpAny M A t Q' E s := wpAny_mono h hQ fun _ _ x => x
end L2
namespace L2
open PySem PySem.Spec PyProof.Rows
section
variable {X : Cx}
def HI (i : Nat) : TE := fun σ H Q => ∃ v, σ[i]? = some (some v) ∧ Q v H
def tC (v : V) : TE := fun _ H Q => Q v H
theorem BJ {i : Nat} {x : Str} {pos : Pos} (hN : X.N[i]? = some x) (hv : Vis X.env.scope x) (hd : (x == ("__debug__" : Str)) = false := by decide) (hcd : (x == ("__classdict__" : Str)) = false := by decide) : PE X (.Name x pos) (HI i) := by
  intro pins s σ H Q I h
  obtain ⟨v, e, h⟩ := h
  obtain ⟨m, hn, hl⟩ := I.loc
  obtain ⟨u, r, l⟩ := hl i x v hN e hv
  have fin : EP X pins σ Q u s := ⟨v, H, I, r, h⟩
  rcases l with ⟨hk, hm⟩ | ⟨hk, c, hc, hcell⟩
  · exact wpAny_Name (wpAny_loadName_local I.ok.kind hk hn hm fin) hd
  · rcases hk with hk | hk
    · exact wpAny_Name (wpAny_loadName_cell I.ok.kind hk hc hcell fin) hd
    · exact wpAny_Name (wpAny_loadName_free I.ok.kind hk hc hcell fin hcd) hd
theorem BK {i j pos} : PE X (.Constant (.int i) j pos) (tC (.int i)) := fun _ _ _ H _ I h => wpAny_Constant_int ⟨.int i, H, I.tok _, ⟨_, rfl⟩, h⟩
theorem HJ {b j pos} : PE X (.Constant (.bool b) j pos) (tC (.bl b)) := fun _ _ _ H _ I h => Constant_bool ⟨.bl b, H, I, rfl, h⟩
theorem FN {j pos} : PE X (.Constant .none j pos) (tC .non) := fun _ _ _ H _ I h => Constant_none ⟨.non, H, I, rfl, h⟩
theorem wD {x j pos} : PE X (.Constant (.str x) j pos) (tC (.str x)) := fun _ _ _ H _ I h => Calls.Constant_str ⟨.str x, H, I.tok _, ⟨_, rfl⟩, h⟩
def Gl (X : Cx) (x : Str) : Prop := X.env.kindOf x = some .globalImplicit
theorem sG {E : Value → Shared → Prop} {pins : List (Addr × Obj)} {s : Shared} {σ : St} {H : Hp} {x : Str} {u : Value} {pos : Pos} {Q : Value → Shared → Prop} (I : Inv X pins σ H s) (hg : Gl X x) (hm : X.mg x = some u) (h : Q u s)
    (hd : (x == ("__debug__" : Str)) = false := by decide) : wpAny (model X.prog X.w) X.A (eval (.Name x pos) X.env) Q E s :=
  Calls.Name_function_global I.ok.kind hg (Calls.loadGlobal_global (by rw [I.ok.glob]; exact I.mod.glob.keeps I.bk) hm h) hd
theorem lu {E : Value → Shared → Prop} {pins : List (Addr × Obj)} {s : Shared} {σ : St} {H : Hp} {x : Str} {u : Value} {pos : Pos} {Q : Value → Shared → Prop} (I : Inv X pins σ H s) (hg : Gl X x) (hm : X.mg x = none) (hv : bootBuiltins x = some u) (h : Q u s)
    (hn : x ≠ "__name__" := by decide) (hd : (x == ("__debug__" : Str)) = false := by decide) : wpAny (model X.prog X.w) X.A (eval (.Name x pos) X.env) Q E s := by
  obtain ⟨mb, h1, h2⟩ := I.mod.blt
  exact Calls.Name_function_global I.ok.kind hg (Calls.loadGlobal_builtin (by rw [I.ok.glob]; exact I.mod.glob.keeps I.bk) hm (by rw [I.ok.blt]; exact h1.keeps I.bk) ((h2 x hn).trans hv) h) hd
theorem sH {x : Str} {v : V} {u : Value} {pos : Pos} (hg : Gl X x) (hm : X.mg x = some u) (r : bB v u) (hd : (x == ("__debug__" : Str)) = false := by decide) : PE X (.Name x pos) (tC v) :=
  fun _ _ _ H _ I h => sG I hg hm ⟨v, H, I, r, h⟩ hd
theorem y4 {x : Str} {v : V} {u : Value} {pos : Pos} (hg : Gl X x) (hm : X.mg x = none) (hv : bootBuiltins x = some u) (r : bB v u) (hn : x ≠ "__name__" := by decide) (hd : (x == ("__debug__" : Str)) = false := by decide) : PE X (.Name x pos) (tC v) :=
  fun _ _ _ H _ I h => lu I hg hm hv ⟨v, H, I, r, h⟩ hn hd
variable {a b : Expr} {ta tb : TE} {pos : Pos}
def tB (t : TE) : TT := fun σ H Q => t σ H fun x H1 => ∃ c, x = .bl c ∧ Q c H1
theorem FO {e : Expr} {t : TE} (h : PE X e t) (he : ∀ whole, isTrue e X.env whole = (do let v ← whole; standAt e.pos; holding [v] (truthy v)) := by intro _; rfl) : PT X e (tB t) := by
  intro pins s σ H Q I hw
  refine isTrue_plain (thn (h pins s σ H _ I hw) fun v s1 ⟨x, H1, I1, r1, q1⟩ => ?_) (he _)
  obtain ⟨d, rfl, q⟩ := q1
  cases r1
  exact wpAny_truthy_bool ⟨H1, I1, q⟩
variable {tA tB' : TT} {rest : List Expr}
def fY (t u : TT) : TT := fun σ H Q => t σ H fun c H1 => if c = true then u σ H1 Q else Q false H1
def tOr (t u : TT) : TT := fun σ H Q => t σ H fun c H1 => if c = true then Q true H1 else u σ H1 Q
def cH (t : TT) : TT := fun σ H Q => t σ H fun c H1 => Q (!c) H1
theorem D0 (ha : PT X a tA) : PW X (.BoolOp .And [a] pos) tA := by
  intro wh pins s σ H Q I h
  refine isTrue_and (thn (ha pins s σ H Q I h) fun c s1 e => ?_)
  cases c with
  | true => exact isTrue_and_nil e
  | false => exact e
theorem FP (ha : PT X a tA) : PW X (.BoolOp .Or [a] pos) tA := by
  intro wh pins s σ H Q I h
  refine isTrue_or (thn (ha pins s σ H Q I h) fun c s1 e => ?_)
  cases c with
  | false => exact isTrue_or_nil e
  | true => exact e
theorem FQ (ha : PT X a tA) (hb : PW X (.BoolOp .And (b :: rest) pos) tB') : PW X (.BoolOp .And (a :: b :: rest) pos) (fY tA tB') := by
  intro wh pins s σ H Q I h
  refine isTrue_and (thn (ha pins s σ H _ I h) fun c s1 ⟨H1, I1, q1⟩ => ?_)
  cases c with
  | true => exact hb wh pins s1 σ H1 Q I1 q1
  | false => exact ⟨H1, I1, q1⟩
theorem HK (ha : PT X a tA) (hb : PW X (.BoolOp .Or (b :: rest) pos) tB') : PW X (.BoolOp .Or (a :: b :: rest) pos) (tOr tA tB') := by
  intro wh pins s σ H Q I h
  refine isTrue_or (thn (ha pins s σ H _ I h) fun c s1 ⟨H1, I1, q1⟩ => ?_)
  cases c with
  | true => exact ⟨H1, I1, q1⟩
  | false => exact hb wh pins s1 σ H1 Q I1 q1
theorem FR (ha : PT X a tA) : PT X (.UnaryOp .Not a pos) (cH tA) := by
  intro pins s σ H Q I h
  exact isTrue_not (ha pins s σ H (fun c H1 => Q (!c) H1) I h)
def HL (ta tb : TE) : TE := fun σ H Q => ta σ H fun x H1 => ∃ c, x = .bl c ∧ if c = true then tb σ H1 Q else Q (.bl false) H1
def IX (ta tb : TE) : TE := fun σ H Q => ta σ H fun x H1 => ∃ c, x = .bl c ∧ if c = true then Q (.bl true) H1 else tb σ H1 Q
def HM (ta : TE) : TE := fun σ H Q => ta σ H fun x H1 => ∃ c, x = .bl c ∧ Q (.bl (!c)) H1
theorem FS {op} {t : TE} (h : PE X a t) : PE X (.BoolOp op [a] pos) t := fun pins s σ H Q I hw => BoolOp_one (h pins s σ H Q I hw)
theorem FT (ha : PE X a ta) (hb : PE X (.BoolOp .And (b :: rest) pos) tb) : PE X (.BoolOp .And (a :: b :: rest) pos) (HL ta tb) := by
  intro pins s σ H Q I h
  refine BoolOp_and (thn (ha pins s σ H _ I h) fun v s1 ⟨x, H1, I1, r1, q1⟩ => ?_)
  obtain ⟨c, rfl, q1⟩ := q1
  cases r1
  refine wpAny_truthy_bool ?_
  cases c with
  | true => exact hb pins s1 σ H1 Q I1 q1
  | false => exact ⟨.bl false, H1, I1, rfl, q1⟩
theorem HN (ha : PE X a ta) (hb : PE X (.BoolOp .Or (b :: rest) pos) tb) : PE X (.BoolOp .Or (a :: b :: rest) pos) (IX ta tb) := by
  intro pins s σ H Q I h
  refine BoolOp_or (thn (ha pins s σ H _ I h) fun v s1 ⟨x, H1, I1, r1, q1⟩ => ?_)
  obtain ⟨c, rfl, q1⟩ := q1
  cases r1
  refine wpAny_truthy_bool ?_
  cases c with
  | false => exact hb pins s1 σ H1 Q I1 q1
  | true => exact ⟨.bl true, H1, I1, rfl, q1⟩
theorem FU (ha : PE X a ta) : PE X (.UnaryOp .Not a pos) (HM ta) := by
  intro pins s σ H Q I h
  refine UnaryOp_ (thn (ha pins s σ H _ I h) fun v s1 ⟨x, H1, I1, r1, q1⟩ => ?_)
  obtain ⟨c, rfl, q1⟩ := q1
  cases r1
  exact not_of (wpAny_truthy_bool ⟨.bl (!c), H1, I1, rfl, q1⟩)
def tIf (t : TT) (ta tb : TE) : TE := fun σ H Q => t σ H fun c H1 => if c = true then ta σ H1 Q else tb σ H1 Q
theorem BM {c : Expr} (hc : PT X c tA) (ha : PE X a ta) (hb : PE X b tb) : PE X (.IfExp c a b pos) (tIf tA ta tb) := by
  intro pins s σ H Q I h
  refine wpAny_IfExp (thn (hc pins s σ H _ I h) fun d s1 ⟨H1, I1, q1⟩ => ?_)
  cases d with
  | true => exact ha pins s1 σ H1 Q I1 q1
  | false => exact hb pins s1 σ H1 Q I1 q1
end
end L2
namespace L2
open PySem PySem.Spec PyProof.Rows
def SqL (K : PySem.W.Frag) (H : Hp) (a : Addr) (xs : List V) : Prop :=
  Rd H a (.lst xs) ∨
    ∃ (o : Obj) (its : Array Value) (n : Nat), K.lookup a = some o ∧ o.cls = .type "list" ∧ o.dict = none ∧ o.data = .seq its n ∧ its.size ≤ sizeLine ∧ aV xs its.toList
def SqT (K : PySem.W.Frag) (H : Hp) (a : Addr) (xs : List V) : Prop :=
  Rd H a (.tup xs) ∨
    ∃ (o : Obj) (its : Array Value) (n : Nat), K.lookup a = some o ∧ o.cls = .type "tuple" ∧ o.data = .seq its n ∧ its.size ≤ sizeLine ∧ aV xs its.toList
def IY : Value → Option V
  | .none => some .non
  | .bool b => some (.bl b)
  | .int i _ => some (.int i)
  | .str x _ => some (.str x)
  | .bytes b _ => some (.byt b)
  | .float b _ => some (.flt b)
  | .ref a => some (.ref a)
  | .type n => some (.ty n)
  | _ => none
theorem bB.abs {x : V} {u : Value} (r : bB x u) : IY u = some x := by
  cases x with
  | non => cases r; rfl
  | bl _ => cases r; rfl
  | int _ => obtain ⟨t, rfl⟩ := r; rfl
  | str _ => obtain ⟨t, rfl⟩ := r; rfl
  | byt _ => obtain ⟨t, rfl⟩ := r; rfl
  | flt _ => obtain ⟨t, rfl⟩ := r; rfl
  | ref _ => cases r; rfl
  | ty _ => cases r; rfl
theorem bB.inj {x y : V} {u : Value} (r : bB x u) (q : bB y u) : x = y := Option.some.inj (r.abs.symm.trans q.abs)
theorem aV.inj : ∀ {xs ys : List V} {us : List Value}, aV xs us → aV ys us → xs = ys
  | _, _, _, .nil, .nil => rfl
  | _, _, _, .cons r t, .cons r' t' => by rw [r.inj r', aV.inj t t']
section
variable {X : Cx} {pins : List (Addr × Obj)} {σ : St} {H : Hp} {s : Shared} {a : Addr} {xs ys : List V}
theorem SqL.of {K : PySem.W.Frag} (h : H a = some (.lst xs)) : SqL K H a xs := .inl (.inl h)
theorem SqT.of {K : PySem.W.Frag} (h : H a = some (.tup xs)) : SqT K H a xs := .inl (.inl h)
theorem Inv.list (I : Inv X pins σ H s) (h : SqL X.K H a xs) : ∃ its : List Value, aV xs its ∧ PlainL s.heap a its.toArray ∧ xs.length ≤ sizeLine := by
  rcases h with h | ⟨o, its, n, hk, hc, hd, hs, hz, r⟩
  · obtain ⟨z, its, n, r, e⟩ := h.ok I.hok
    exact ⟨its, r, ⟨_, n, e, rfl, rfl, rfl⟩, z⟩
  · refine ⟨its.toList, r, ⟨o, n, I.kIn a o hk, hc, hd, by simpa using hs⟩, ?_⟩
    have e := r.length
    simp only [Array.length_toList] at e
    omega
theorem Inv.tuple (I : Inv X pins σ H s) (h : SqT X.K H a xs) : ∃ its : List Value, aV xs its ∧ IsTup s.heap a its.toArray ∧ xs.length ≤ sizeLine := by
  rcases h with h | ⟨o, its, n, hk, hc, hs, hz, r⟩
  · obtain ⟨z, its, r, p⟩ := h.ok I.hok
    exact ⟨its, r, p, z⟩
  · refine ⟨its.toList, r, ⟨o, I.kIn a o hk, hc, n, by simpa using hs⟩, ?_⟩
    have e := r.length
    simp only [Array.length_toList] at e
    omega
theorem Inv.list_inj (I : Inv X pins σ H s) (h : SqL X.K H a xs) (h' : SqL X.K H a ys) : xs = ys := by
  obtain ⟨its, r, ⟨o, n, e, _, _, d⟩, _⟩ := I.list h
  obtain ⟨its', r', ⟨o', n', e', _, _, d'⟩, _⟩ := I.list h'
  rw [e] at e'; cases e'
  rw [d] at d'
  injection d' with d1 _
  have : its = its' := by simpa using congrArg Array.toList d1
  subst this
  exact r.inj r'
theorem Inv.tuple_inj (I : Inv X pins σ H s) (h : SqT X.K H a xs) (h' : SqT X.K H a ys) : xs = ys := by
  obtain ⟨its, r, ⟨o, e, _, n, d⟩, _⟩ := I.tuple h
  obtain ⟨its', r', ⟨o', e', _, n', d'⟩, _⟩ := I.tuple h'
  rw [e] at e'; cases e'
  rw [d] at d'
  injection d' with d1 _
  have : its = its' := by simpa using congrArg Array.toList d1
  subst this
  exact r.inj r'
end
abbrev Cx.wish (X : Cx) (E : Value → Shared → Prop) : Cx := { X with xe := E }
abbrev Cx.nox (X : Cx) : Cx := X.wish fun _ _ => False
theorem Cx.Ok.wish {X : Cx} (ok : X.Ok) (E : Value → Shared → Prop) : (X.wish E).Ok :=
  ⟨ok.mod, ok.kind, ok.glob, ok.blt, ok.above, ok.inj, ok.has, ok.cab, ok.hd, ok.frames, ok.stk, ok.exf, ok.bs, ok.bsz, ok.noex, ok.exfs, ok.funs, ok.frf⟩
theorem Cx.Ok.unwish {X : Cx} {E : Value → Shared → Prop} (ok : (X.wish E).Ok) : X.Ok :=
  ⟨ok.mod, ok.kind, ok.glob, ok.blt, ok.above, ok.inj, ok.has, ok.cab, ok.hd, ok.frames, ok.stk, ok.exf, ok.bs, ok.bsz, ok.noex, ok.exfs, ok.funs, ok.frf⟩
section
variable {X : Cx} {pins : List (Addr × Obj)} {σ : St} {H : Hp} {s : Shared} {E : Value → Shared → Prop}
theorem Inv.wish (I : Inv X pins σ H s) (E : Value → Shared → Prop) : Inv (X.wish E) pins σ H s := ⟨I.ok.wish E, I.os, I.bare, I.base, I.loc, I.cell, I.free, I.freeC, I.pin, I.hok, I.len⟩
theorem Inv.unwish (I : Inv (X.wish E) pins σ H s) : Inv X pins σ H s := ⟨I.ok.unwish, I.os, I.bare, I.base, I.loc, I.cell, I.free, I.freeC, I.pin, I.hok, I.len⟩
theorem SP.unwish {D : m4} {f : Flow} {s' : Shared} (h : SP (X.wish E) pins D f s') : SP X pins D f s' := by
  cases f with
  | next => obtain ⟨σ', H', I, q⟩ := h; exact ⟨σ', H', I.unwish, q⟩
  | brk => obtain ⟨σ', H', I, q⟩ := h; exact ⟨σ', H', I.unwish, q⟩
  | cont => obtain ⟨σ', H', I, q⟩ := h; exact ⟨σ', H', I.unwish, q⟩
  | ret u => obtain ⟨v, σ', H', I, r, q⟩ := h; exact ⟨v, σ', H', I.unwish, r, q⟩
theorem PSs.nox {st : List Stmt} {t : TS} (h : PSs X.nox st t) : PSs X st t := fun pins s σ H D I hw =>
  wpAny_mono (h pins s σ H D (I.wish _) hw) (fun _ _ q => q.unwish) fun _ _ z => False.elim z
end
section
variable {X : Cx} {st : Stmt} {rest : List Stmt} {t u : TS} {e : Expr} {te : TE} {pos : Pos}
def HP : TS := fun D σ H => D.nx σ H
def IZ (t u : TS) : TS := fun D σ H => t { D with nx := u D } σ H
theorem sI : PSs X [] HP := fun _ _ σ H _ I h => wpAny_execs_nil ⟨σ, H, I, h⟩
theorem uK (h1 : PS X st t) (h2 : PSs X rest u) : PSs X (st :: rest) (IZ t u) := by
  intro pins s σ H D I h
  refine wpAny_execs_cons (thn (h1 pins s σ H { D with nx := u D } I h) fun f s1 q => ?_)
  cases f with
  | next =>
    obtain ⟨σ', H', I', q⟩ := q
    exact h2 pins s1 σ' H' D I' q
  | ret v => exact q
  | brk => exact q
  | cont => exact q
theorem sJ (h1 : PS X st t) : PSs X [st] t := by
  intro pins s σ H D I h
  refine wpAny_execs_cons (thn (h1 pins s σ H D I h) fun f s1 q => ?_)
  cases f with
  | next => exact wpAny_execs_nil q
  | ret v => exact q
  | brk => exact q
  | cont => exact q
theorem Inv.quiet {pins : List (Addr × Obj)} {σ : St} {H : Hp} {s : Shared} (I : Inv X pins σ H s) : interactive X.env = false := by simp [interactive, I.ok.kind]
def HQ (te : TE) : TS := fun D σ H => te σ H fun _ H1 => D.nx σ H1
theorem y6 (he : PE X e te) (hs : swapsWith e none pos.line X.env = pure false := by rfl) : PS X (.Expr e pos) (HQ te) := by
  intro pins s σ H D I h
  exact wpAny_Expr_any (thn (he pins s σ H _ I h) fun v s1 ⟨x, H1, I1, r1, q1⟩ => ⟨σ, H1, I1, q1⟩) I.quiet hs
def Ja (te : TE) : TS := fun D σ H => te σ H D.rt
theorem FV (he : PE X e te) : PS X (.Return (some e) pos) (Ja te) := by
  intro pins s σ H D I h
  exact wpAny_Return_some (thn (he pins s σ H _ I h) fun v s1 ⟨x, H1, I1, r1, q1⟩ => ⟨x, σ, H1, I1, r1, q1⟩)
def Jb (c : TT) (t u : TS) : TS := fun D σ H => c σ H fun b H1 => if b = true then t D σ H1 else u D σ H1
theorem Fw {c : Expr} {a b : List Stmt} {tc : TT} (hc : PT X c tc) (ha : PSs X a t) (hb : PSs X b u) : PS X (.If c a b pos) (Jb tc t u) := by
  intro pins s σ H D I h
  refine wpAny_If (thn (hc pins s σ H _ I h) fun d s1 ⟨H1, I1, q1⟩ => ?_)
  cases d with
  | true => exact ha pins s1 σ H1 D I1 q1
  | false => exact hb pins s1 σ H1 D I1 q1
def FW : TS := fun _ _ _ => False
theorem BN : PS X st FW := fun _ _ _ _ _ _ h => h.elim
end
abbrev TG := V → St → Hp → (St → Hp → Prop) → Prop
abbrev TGs := List V → St → Hp → (St → Hp → Prop) → Prop
def PG (X : Cx) (target : Expr) (t : TG) : Prop :=
  ∀ (pins : List (Addr × Obj)) (s : Shared) (σ : St) (H : Hp) (v : V) (u : Value) (Q : St → Hp → Prop), Inv X pins σ H s → bB v u → t v σ H Q →
    wpAny (model X.prog X.w) X.A (assign target X.env u) (fun _ s' => ∃ σ' H', Inv X pins σ' H' s' ∧ Q σ' H') X.xe s
def PGs (X : Cx) (ts : List Expr) (t : TGs) : Prop :=
  ∀ (pins : List (Addr × Obj)) (s : Shared) (σ : St) (H : Hp) (vs : List V) (us : List Value) (Q : St → Hp → Prop), Inv X pins σ H s → aV vs us → t vs σ H Q →
    wpAny (model X.prog X.w) X.A (assignInOrder ((assignEach ts X.env).map (·.2)) us) (fun _ s' => ∃ σ' H', Inv X pins σ' H' s' ∧ Q σ' H') X.xe s
abbrev FX := V → V → V → Hp → (Hp → Prop) → Prop
def FY (X : Cx) (t : FX) : Prop :=
  ∀ (pins : List (Addr × Obj)) (s : Shared) (σ : St) (H : Hp) (o i v : V) (ov iv u : Value) (Q : Hp → Prop), Inv X pins σ H s → bB o ov → bB i iv → bB v u → t o i v H Q →
    wpAny (model X.prog X.w) X.A (setItem ov iv u) (fun _ s' => ∃ H', Inv X pins σ H' s' ∧ Q H') X.xe s
section
variable {X : Cx} {pos : Pos}
def BO (i : Nat) : TG := fun v σ H Q => Q (σ.set i (some v)) H
theorem D1 {i : Nat} {x : Str} (hN : X.N.Nodup) (hi : X.N[i]? = some x) (hx : Loc X.env.scope x) (hf : X.fn x = true ∨ X.env.scope.names.lookup x = some .local := by first | exact .inl rfl | exact .inr rfl | assumption) : PG X (.Name x pos) (BO i) := by
  intro pins s σ H v u Q I r h
  exact wpAny_assign_Name (mZ I hN hi hx r (fun s' I' => ⟨_, H, I', h⟩) hf)
def Jc : TGs := fun vs σ H Q => vs = [] ∧ Q σ H
def HR (t : TG) (u : TGs) : TGs := fun vs σ H Q => ∃ v r, vs = v :: r ∧ t v σ H fun σ' H' => u r σ' H' Q
theorem D2 : PGs X [] Jc := by
  intro pins s σ H vs us Q I r h
  obtain ⟨e, h⟩ := h
  subst e
  cases r
  exact assignInOrder_nil ⟨σ, H, I, h⟩
theorem BP {e : Expr} {es : List Expr} {t : TG} {u : TGs} (h1 : PG X e t) (h2 : PGs X es u)
    (hs : (assignEach (e :: es) X.env).map (·.2) = assign e X.env :: (assignEach es X.env).map (·.2) := by rfl) : PGs X (e :: es) (HR t u) := by
  intro pins s σ H vs us Q I r h
  obtain ⟨v, vr, e1, h⟩ := h
  subst e1
  cases r with
  | cons r rr =>
    rw [hs]
    refine assignInOrder_cons (thn (h1 pins s σ H _ _ _ I r h) fun _ s1 ⟨σ1, H1, I1, q1⟩ => ?_)
    exact h2 pins s1 σ1 H1 _ _ Q I1 rr q1
def Jd (K : PySem.W.Frag) (n : Nat) (t : TGs) : TG := fun v σ H Q => ∃ a xs, v = .ref a ∧ SqT K H a xs ∧ xs.length = n ∧ t xs σ H Q
theorem FZ {es : List Expr} {k : Nat} {t : TGs} {n : Nat} (hc : X.calm = true) (h : PGs X es t)
    (hn : (assignEach es X.env).length = n := by rfl) (hst : (assignEach es X.env).findIdx? (·.1) = none := by rfl) : PG X (.Tuple es k pos) (Jd X.K n t) := by
  intro pins s σ H v u Q I r hw
  obtain ⟨a, xs, e1, hq, hl, hw⟩ := hw
  subst e1
  cases r
  obtain ⟨its, rv, ht, hz⟩ := I.tuple hq
  refine assign_Tuple_tuple (I.ok.hd hc) ht (by simp [hn, ← hl, rv.length]) hst fun h' hx => ?_
  have I1 : Inv X pins σ H { s with heap := h' } := I.kept (t' := s.toks) fun b o e => hx b o (Nat.ne_of_lt (Heap.lt_size e)) e
  exact h pins _ σ H xs _ Q I1 (by simpa using rv) hw
def Je (to ti : TE) (t : FX) : TG := fun v σ H Q => to σ H fun o H1 => ti σ H1 fun i H2 => t o i v H2 fun H3 => Q σ H3
theorem BQ {o i : Expr} {to ti : TE} {t : FX} (ho : PE X o to) (hi : PE X i ti) (hs : FY X t)
    (ha : ∀ v, assign (.Subscript o i pos) X.env v = (do
      let ov ← holding [v] (eval o X.env)
      let iv ← holding [v, ov] (eval i X.env)
      standAt pos
      holding [v, ov, iv] (setItem ov iv v)
      release [v, ov, iv] []) := by intro _; rfl) : PG X (.Subscript o i pos) (Je to ti t) := by
  intro pins s σ H v u Q I r h
  rw [ha]
  refine wpAny_bind (wpAny_holding (thn (ho pins s σ H _ I h) fun ov s1 ⟨x, H1, I1, r1, q1⟩ => ?_))
  refine wpAny_bind (wpAny_holding (thn (hi pins s1 σ H1 _ I1 q1) fun iv s2 ⟨y, H2, I2, r2, q2⟩ => ?_))
  refine wpAny_bind (wpAny_standAt (wpAny_bind (wpAny_holding (thn (hs pins s2 σ H2 x y v ov iv u _ I2 r1 r2 r q2) fun _ s3 ⟨H3, I3, q3⟩ => ?_))))
  exact wpAny_release ⟨σ, H3, I3, q3⟩
def F1 (te : TE) (g : TG) : TS := fun D σ H => te σ H fun x H1 => g x σ H1 D.nx
theorem wE {tg e : Expr} {te : TE} {g : TG} (he : PE X e te) (hg : PG X tg g) (hs : swapsWithSole [tg] e pos.line X.env = pure false := by rfl) (hw : swappedStores [tg] e X.env = pure none := by rfl)
    (h1 : (assignEach [tg] X.env).map (·.2) = [assign tg X.env] := by rfl) : PS X (.Assign [tg] e pos) (F1 te g) := by
  intro pins s σ H D I h
  refine wpAny_Assign_stores (thn (he pins s σ H _ I h) fun v s1 ⟨x, H1, I1, r1, q1⟩ => ?_) hs hw
  rw [h1]
  exact thn (hg pins s1 σ H1 x v _ I1 r1 q1) fun _ s2 q => q
theorem BR {i : Nat} {x : Str} {e : Expr} {te : TE} {pos' : Pos} (hN : X.N.Nodup) (hi : X.N[i]? = some x) (hx : Loc X.env.scope x) (he : PE X e te) (hs : swapsWith e (some (.Name x pos')) pos.line X.env = pure false := by rfl) (hf : X.fn x = true ∨ X.env.scope.names.lookup x = some .local := by first | exact .inl rfl | exact .inr rfl | assumption) :
    PS X (.Assign [.Name x pos'] e pos) (F1 te (BO i)) := by
  intro pins s σ H D I h
  refine wpAny_Assign_Name (thn (he pins s σ H _ I h) fun v s1 ⟨y, H1, I1, r1, q1⟩ => ?_) hs
  exact mZ I1 hN hi hx r1 (fun s2 I2 => ⟨_, H1, I2, q1⟩) hf
end
section
variable {X : Cx} {pos : Pos}
end
structure It where
  go : Nat → Hp → Prop
  yld : Nat → Hp → V → Hp → Prop
  stop : Nat → Hp → Prop
def m5 (X : Cx) (pins : List (Addr × Obj)) (H : Hp) (b : Addr) : Prop :=
  H b = none ∧ b ≠ X.env.locals ∧ b ∉ X.fs ∧ (b ∈ X.ex ∨ X.s₀.heap.objs.size ≤ b) ∧ (∀ x c, X.env.cells.lookup x = some c → c ≠ b) ∧ ∀ p ∈ X.pn ++ pins, p.1 ≠ b
theorem Inv.fpOk {X : Cx} {pins : List (Addr × Obj)} {σ : St} {H H' : Hp} {s : Shared} {b : Addr} (I : Inv X pins σ H s) (hb : s.heap.objs.size ≤ b) (hn : H' b = none) : m5 X pins H' b := by
  refine ⟨hn, Nat.ne_of_gt (Nat.lt_of_lt_of_le I.lt hb), I.nofs hb, .inr (Nat.le_trans I.sz hb), fun x c e z => ?_, fun p hp z => ?_⟩
  · obtain ⟨v, q⟩ := I.cell x c e
    exact absurd (Nat.lt_of_lt_of_le q.lt (by rw [z]; exact hb)) (Nat.lt_irrefl _)
  · exact absurd (Nat.lt_of_lt_of_le (Heap.lt_size (I.pin p hp).1) (by rw [z]; exact hb)) (Nat.lt_irrefl _)
structure wF (P : Program) (w : World) (K : PySem.W.Frag) (tg : Expr) (J : It) (fp : List Addr) (it : Addr) (tn : Nat → Heap → Prop) : Prop where
  mem : it ∈ fp
  obj : ∀ i h, tn i h → ∀ b ∈ fp, ∃ o, h.get? b = some o ∧ ∀ v, o.data ≠ .cell v
  keep : ∀ i h h', tn i h → (∀ b ∈ fp, ∀ o, h.get? b = some o → h'.get? b = some o) → tn i h'
  item : ∀ (X : Cx), X.prog = P → X.w = w → X.K = K → X.calm = true → ∀ (i : Nat) (pins : List (Addr × Obj)) (s : Shared) (σ : St) (H : Hp) (E : Value → Shared → Prop), Inv X pins σ H s → (∀ b ∈ fp, m5 X pins H b) → tn i s.heap → J.go i H →
    wpAny (model P w) X.A (pyNext (.ref it)) (fun r s1 => ∃ u, r = some u ∧
      wpAny (model P w) X.A (letOwnedTupleGo tg (.ref it) u) (fun _ s2 => ∃ x H', Inv X pins σ H' s2 ∧ bB x u ∧ J.yld i H x H' ∧ tn (i + 1) s2.heap ∧ ∀ b ∈ fp, H' b = none) E s1) E s
  done : ∀ (X : Cx), X.prog = P → X.w = w → X.K = K → X.calm = true → ∀ (i : Nat) (pins : List (Addr × Obj)) (s : Shared) (σ : St) (H : Hp) (E : Value → Shared → Prop), Inv X pins σ H s → (∀ b ∈ fp, m5 X pins H b) → tn i s.heap → J.stop i H →
    wpAny (model P w) X.A (pyNext (.ref it)) (fun r s1 => r = none ∧ Inv X pins σ H s1) E s
  self : ∀ (A : Around) (i : Nat) (s : Shared) (Q : Value → Shared → Prop) (E : Value → Shared → Prop), tn i s.heap → Q (.ref it) s → wpAny (model P w) A (pyIter (.ref it)) Q E s
abbrev TI := St → Hp → (It → Hp → Prop) → Prop
def PIE (X : Cx) (pins : List (Addr × Obj)) (σ : St) (tg : Expr) (R : It → Hp → Prop) (itv : Value) (s2 : Shared) : Prop :=
  ∃ (it : Addr) (fp : List Addr) (tn : Nat → Heap → Prop) (J : It) (H' : Hp), itv = .ref it ∧ Inv X pins σ H' s2 ∧ wF X.prog X.w X.K tg J fp it tn ∧ tn 0 s2.heap ∧ (∀ b ∈ fp, m5 X pins H' b) ∧ R J H'
def PI (X : Cx) (tg iter : Expr) (wi : TI) : Prop :=
  ∀ (pins : List (Addr × Obj)) (s : Shared) (σ : St) (H : Hp) (R : It → Hp → Prop), Inv X pins σ H s → wi σ H R →
    wpAny (model X.prog X.w) X.A (eval iter X.env) (fun v s1 => wpAny (model X.prog X.w) X.A (pyIter v) (PIE X pins σ tg R) X.xe s1) X.xe s
theorem BS {M : Model} {A : Around} {E : Value → Shared → Prop} {s : Shared} {tg : Expr} {it : Addr} {u : Value} {o : Obj} {n : String} {vs : Array Value} {Q : Unit → Shared → Prop} (ho : s.heap.get? it = some o) (hc : o.cls = .type n) (hd : o.data = .fields vs)
    (hn : ["enumerate", "zip", "dict_itemiterator", "dict_reverseitemiterator", "odict_iterator", "itertools.zip_longest", "itertools.pairwise"].contains n = false) (hQ : Q () s) : wpAny M A (letOwnedTupleGo tg (.ref it) u) Q E s := by
  unfold letOwnedTupleGo
  cases tg <;> first
    | exact wpAny_pure hQ
    | (cases u <;> first
        | exact wpAny_pure hQ
        | (refine wpAny_bind (wpAny_load ho ?_)
           rw [hc, hd]
           show wpAny M A (if (["enumerate", "zip", "dict_itemiterator", "dict_reverseitemiterator", "odict_iterator", "itertools.zip_longest", "itertools.pairwise"].contains n && vs[0]? == some (rawInt _)) = true then _ else _) Q E s
           rw [if_neg (by intro h; rw [hn, Bool.false_and] at h; cases h)]
           exact wpAny_pure hQ))
def Itl (K : PySem.W.Frag) (a : Addr) : It :=
  ⟨fun i H => ∃ xs x, SqL K H a xs ∧ xs[i]? = some x, fun i H x H' => H' = H ∧ ∀ xs, SqL K H a xs → xs[i]? = some x, fun i H => ∃ xs, SqL K H a xs ∧ xs.length ≤ i⟩
def Itt (K : PySem.W.Frag) (a : Addr) : It :=
  ⟨fun i H => ∃ xs x, SqT K H a xs ∧ xs[i]? = some x, fun i H x H' => H' = H ∧ ∀ xs, SqT K H a xs → xs[i]? = some x, fun i H => ∃ xs, SqT K H a xs ∧ xs.length ≤ i⟩
def Itr (lo : Int) (n : Nat) : It := ⟨fun i _ => i < n, fun i H x H' => H' = H ∧ x = .int (lo + i), fun i _ => n ≤ i⟩
theorem zU {P : Program} {w : World} {K : PySem.W.Frag} {tg : Expr} (a it : Addr) : wF P w K tg (Itl K a) [it] it (fun i h => h.IsListIter it a i) where
  mem := by simp
  obj := fun i h st b hb => by
    have e : b = it := by simpa using hb
    subst e
    obtain ⟨o, e, c, d⟩ := st
    exact ⟨o, e, fun v z => by rw [d] at z; cases z⟩
  keep := fun i h h' st k => st.at fun o e => k it (by simp) o e
  item := by
    intro X hP hw hK hc i pins s σ H E I hf st hg
    subst hP hw hK
    obtain ⟨xs, x, hq, hx⟩ := hg
    obtain ⟨its, rv, p, hz⟩ := I.list hq
    obtain ⟨u, hu, ru⟩ := rv.get hx
    obtain ⟨f0, f1, f2, f3, f4, f5⟩ := hf it (by simp)
    refine wpAny_pyNext_list_item st p.isList (x := u) (by simpa using hu) fun h' st' sb => ?_
    have I1 : Inv X pins σ H { s with heap := h' } := I.turned (t' := s.toks) (fun b o hb e => (sb.2 b hb).trans e) f0 f1 f3 f4 f5
    obtain ⟨o, e, c, d⟩ := id st'
    exact ⟨u, rfl, BS (s := { s with heap := h' }) e c d (by decide) ⟨x, H, I1, ru, ⟨rfl, fun ys hy => by rw [I.list_inj hy hq]; exact hx⟩, st', fun b hb => (hf b hb).1⟩⟩
  done := by
    intro X hP hw hK hc i pins s σ H E I hf st hg
    subst hP hw hK
    obtain ⟨xs, hq, hx⟩ := hg
    obtain ⟨its, rv, p, hz⟩ := I.list hq
    obtain ⟨f0, f1, f2, f3, f4, f5⟩ := hf it (by simp)
    have hl := rv.length
    exact wpAny_pyNext_list_end (I.ok.hd hc) st p.isList (by simp; omega) fun h' eb => ⟨rfl, I.turned (t' := s.toks) (fun b o hb e => eb b o hb e) f0 f1 f3 f4 f5⟩
  self := fun _ _ _ _ _ st h => wpAny_pyIter_listiter st h
theorem wG {P : Program} {w : World} {K : PySem.W.Frag} {tg : Expr} (a it : Addr) : wF P w K tg (Itt K a) [it] it (fun i h => h.IsTupleIter it a i) where
  mem := by simp
  obj := fun i h st b hb => by
    have e : b = it := by simpa using hb
    subst e
    obtain ⟨o, e, c, d⟩ := st
    exact ⟨o, e, fun v z => by rw [d] at z; cases z⟩
  keep := fun i h h' st k => st.at fun o e => k it (by simp) o e
  item := by
    intro X hP hw hK hc i pins s σ H E I hf st hg
    subst hP hw hK
    obtain ⟨xs, x, hq, hx⟩ := hg
    obtain ⟨its, rv, p, hz⟩ := I.tuple hq
    obtain ⟨u, hu, ru⟩ := rv.get hx
    obtain ⟨f0, f1, f2, f3, f4, f5⟩ := hf it (by simp)
    refine wpAny_pyNext_tuple_item st (show s.heap.IsTuple a its.toArray from p) (x := u) (by simpa using hu) fun h' st' sb => ?_
    have I1 : Inv X pins σ H { s with heap := h' } := I.turned (t' := s.toks) (fun b o hb e => (sb.2 b hb).trans e) f0 f1 f3 f4 f5
    obtain ⟨o, e, c, d⟩ := id st'
    exact ⟨u, rfl, BS (s := { s with heap := h' }) e c d (by decide) ⟨x, H, I1, ru, ⟨rfl, fun ys hy => by rw [I.tuple_inj hy hq]; exact hx⟩, st', fun b hb => (hf b hb).1⟩⟩
  done := by
    intro X hP hw hK hc i pins s σ H E I hf st hg
    subst hP hw hK
    obtain ⟨xs, hq, hx⟩ := hg
    obtain ⟨its, rv, p, hz⟩ := I.tuple hq
    obtain ⟨f0, f1, f2, f3, f4, f5⟩ := hf it (by simp)
    have hl := rv.length
    exact wpAny_pyNext_tuple_end (I.ok.hd hc) st (show s.heap.IsTuple a its.toArray from p) (by simp; omega) fun h' eb => ⟨rfl, I.turned (t' := s.toks) (fun b o hb e => eb b o hb e) f0 f1 f3 f4 f5⟩
  self := fun _ _ _ _ _ st h => wpAny_pyIter_tupleiter st h
theorem wH {P : Program} {w : World} {K : PySem.W.Frag} {tg : Expr} (it : Addr) (lo : Int) (n : Nat) : wF P w K tg (Itr lo n) [it] it (fun i h => IsRangeIter h it (lo + (i : Nat) * 1) ((n : Int) - (i : Nat)) 1) where
  mem := by simp
  obj := fun i h st b hb => by
    have e : b = it := by simpa using hb
    subst e
    exact ⟨_, st, fun v z => by
      have z' : Data.fields _ = Data.cell v := z
      cases z'⟩
  keep := fun i h h' st k => k it (by simp) _ st
  item := by
    intro X hP hw hK hc i pins s σ H E I hf st hg
    subst hP hw hK
    obtain ⟨f0, f1, f2, f3, f4, f5⟩ := hf it (by simp)
    have W := Walks.range (prog := X.prog) (w := X.w) (I.ok.hd hc) it lo 1 n
    refine W.item i s _ _ hg st fun v h' tk hv st' kk => ?_
    obtain ⟨t, rfl⟩ := hv
    have I1 : Inv X pins σ H { s with heap := h', toks := tk } := I.turned (fun b o hb e => kk b o (by simpa using hb) e) f0 f1 f3 f4 f5
    refine ⟨_, rfl, BS (s := { s with heap := h', toks := tk }) (n := "range_iterator") st' rfl rfl (by decide) ⟨.int (lo + i), H, I1, ⟨t, ?_⟩, ⟨rfl, rfl⟩, st', fun b hb => (hf b hb).1⟩⟩
    rw [Int.mul_one]
  done := by
    intro X hP hw hK hc i pins s σ H E I hf st hg
    subst hP hw hK
    obtain ⟨f0, f1, f2, f3, f4, f5⟩ := hf it (by simp)
    exact wpAny_pyNext_range_end (I.ok.hd hc) st (by have : n ≤ i := hg; omega) fun h' eb => ⟨rfl, I.turned (t' := s.toks) (fun b o hb e => eb b o hb e) f0 f1 f3 f4 f5⟩
  self := fun _ _ _ _ _ st h => wpAny_pyIter_rangeiter st h
end L2
namespace L2
open PySem PySem.Spec PyProof.Rows
section
variable {X : Cx} {tg : Expr}
theorem BT {pins : List (Addr × Obj)} {σ : St} {H : Hp} {s : Shared} {R : It → Hp → Prop} {E : Value → Shared → Prop} {lo hi : Int} {t u v : Tok} {tk : Nat} (I : Inv X pins σ H s) (h1 : -(2 ^ 62) ≤ lo) (h2 : lo < 2 ^ 62) (h3 : -(2 ^ 62) ≤ hi) (h4 : hi < 2 ^ 62)
    (q : R (Itr lo (hi - lo).toNat) H) : wpAny (model X.prog X.w) X.A (pyIter (.ref s.heap.objs.size)) (PIE X pins σ tg R) E { s with heap := s.heap.push { cls := .type "range", data := .fields #[.int lo t, .int hi u, .int 1 v] }, toks := tk } := by
  refine wpAny_pyIter_range (IsRange.new ..) (small_one h1 h2 h3 h4) ?_
  have I1 : Inv X pins σ H { s with heap := s.heap.push { cls := .type "range", data := .fields #[.int lo t, .int hi u, .int 1 v] }, toks := tk } := I.kept fun b o e => Heap.get?_push_of_some _ e
  refine ⟨(s.heap.push { cls := .type "range", data := .fields #[.int lo t, .int hi u, .int 1 v] }).objs.size, [(s.heap.push { cls := .type "range", data := .fields #[.int lo t, .int hi u, .int 1 v] }).objs.size], _, _, H, rfl,
    I1.kept (t' := tk) fun b o e => Heap.get?_push_of_some _ e, wH _ lo (hi - lo).toNat, ?_, fun b hb => ?_, q⟩
  · have e1 : lo + ((0 : Nat) : Int) * 1 = lo := by simp
    have e2 : (((hi - lo).toNat : Nat) : Int) - ((0 : Nat) : Int) = Builtin.Range.rangeSize lo hi 1 := by rw [rangeSize_one]; split <;> omega
    show IsRangeIter _ _ (lo + ((0 : Nat) : Int) * 1) ((((hi - lo).toNat : Nat) : Int) - ((0 : Nat) : Int)) 1
    rw [e1, e2]
    exact Heap.get?_push_size _ rfl
  · have e : b = (s.heap.push { cls := .type "range", data := .fields #[.int lo t, .int hi u, .int 1 v] }).objs.size := by simpa using hb
    subst e
    exact I1.fpOk (Nat.le_refl _) (I1.hok.fresh (Nat.le_refl _))
def HS (ta : TA) : TI := fun σ H R => ta σ H fun vs H1 => ∃ j : Int, vs = [.int j] ∧ -(2 ^ 62) ≤ j ∧ j < 2 ^ 62 ∧ R (Itr 0 j.toNat) H1
theorem zV {a : Expr} {ta : TA} {p pos : Pos} (hg : Gl X "range") (hm : X.mg "range" = none) (ha : PA X [a] ta) (hs : starEach [a] X.env = [(false, eval a X.env)] := by rfl) : PI X tg (.Call (.Name "range" p) [a] [] pos) (HS ta) := by
  intro pins s σ H R I h
  refine Call_ (lu I hg hm boot_range (PyProof.Rows.callWith_type1 (thn (ha pos pins s σ H _ I h) fun us s1 ⟨vs, H1, I1, r1, q1⟩ => ?_) hs rfl))
  obtain ⟨j, e, q1, q2, q⟩ := q1
  subst e
  cases r1 with
  | cons r rr =>
    cases rr
    obtain ⟨t, rfl⟩ := r
    exact call_range_1 (BT I1 (by omega) (by omega) q1 q2 (by simpa using q))
def Jf (wi : TI) (g : TG) (tb : TS) : TS := fun D σ H => wi σ H fun J H1 => ∃ W : Nat → Nat → St → Hp → Prop, (∃ m, W 0 m σ H1) ∧ ∀ i m σ H, W i m σ H →
  (J.stop i H ∧ D.nx σ H) ∨ (J.go i H ∧ ∃ N : St → Hp → Prop, (∀ σ' H', N σ' H' → ∃ m', m' < m ∧ W (i + 1) m' σ' H') ∧ ∀ x H', J.yld i H x H' → g x σ H' fun σ2 H2 => tb { D with nx := N, ct := N, bk := D.nx } σ2 H2)
def m6 (fp : List Addr) (h : Heap) : List (Addr × Obj) := fp.filterMap fun b => (h.get? b).map fun o => (b, o)
theorem gZ {fp : List Addr} {h : Heap} {b : Addr} {o : Obj} (hb : b ∈ fp) (e : h.get? b = some o) : (b, o) ∈ m6 fp h := List.mem_filterMap.mpr ⟨b, hb, by rw [e]; rfl⟩
theorem zW {fp : List Addr} {h : Heap} {p : Addr × Obj} (hp : p ∈ m6 fp h) : p.1 ∈ fp ∧ h.get? p.1 = some p.2 := by
  obtain ⟨b, hb, e⟩ := List.mem_filterMap.mp hp
  cases q : h.get? b with
  | none => rw [q] at e; cases e
  | some o =>
    rw [q] at e
    have e' : (b, o) = p := Option.some.inj e
    subst e'
    exact ⟨hb, q⟩
theorem Inv.pinned {pins : List (Addr × Obj)} {σ : St} {H : Hp} {s : Shared} {fp : List Addr} (I : Inv X pins σ H s) (hf : ∀ b ∈ fp, m5 X pins H b) (ho : ∀ b ∈ fp, ∃ o, s.heap.get? b = some o ∧ ∀ v, o.data ≠ .cell v) : Inv X (pins ++ m6 fp s.heap) σ H s :=
  I.pins_of fun p hp => (List.mem_append.mp hp).elim (fun z => I.pin p (List.mem_append_right _ z)) fun z => by
    obtain ⟨hb, e⟩ := zW z
    obtain ⟨f0, f1, f2, _⟩ := hf p.1 hb
    obtain ⟨o, e', d⟩ := ho p.1 hb
    rw [e] at e'; cases e'
    exact ⟨e, f0, f1, f2, d⟩
theorem Inv.unpinned {pins pl : List (Addr × Obj)} {σ : St} {H : Hp} {s : Shared} (I : Inv X (pins ++ pl) σ H s) : Inv X pins σ H s := I.pins_of fun p hp => I.pin p (List.mem_append_right _ (List.mem_append_left _ hp))
theorem F3 {iter : Expr} {body : List Stmt} {wi : TI} {g : TG} {tb : TS} {pos : Pos} (hp : PassesOwn (model X.prog X.w) X.A X.env X.xe) (hc : X.calm = true) (hi : PI X tg iter wi) (hg : PG X tg g) (hb : PSs X body tb)
    (hs : ∀ x, foldedSetIterable iter X.env x = pure x := by intro _; rfl) : PS X (.For tg iter body [] pos) (Jf wi g tb) := by
  intro pins s σ H D I h
  refine wpAny_For (thn (hi pins s σ H _ I h) fun v s1 h1 => thn h1 fun itv s2 h2 => ?_) hs
  obtain ⟨it, fp, tn, J, H2, e, I2, T, st2, f2, W, ⟨m0, w0⟩, turn⟩ := h2
  subst e
  have stat : ∀ {H' : Hp}, (∀ b ∈ fp, H' b = none) → ∀ b ∈ fp, m5 X pins H' b := fun hn b hb => ⟨hn b hb, (f2 b hb).2⟩
  refine codeAny_forLoop_any (fun n s' => ∃ i σ' H', Inv X pins σ' H' s' ∧ tn i s'.heap ∧ (∀ b ∈ fp, H' b = none) ∧ W i n σ' H') ?_ m0 ⟨0, σ, H2, I2, st2, fun b hb => (f2 b hb).1, w0⟩
  rintro n s3 ⟨i, σ3, H3, I3, st3, fr3, w3⟩
  rcases turn i n σ3 H3 w3 with ⟨stop, qn⟩ | ⟨go, N, hN, step⟩
  · refine wpAny_passesOwn hp (thn (T.done X rfl rfl rfl hc i pins s3 σ3 H3 X.xe I3 (stat fr3) st3 stop) fun r s4 ⟨hr, I4⟩ => ?_)
    subst hr
    exact wpAny_execs_nil ⟨σ3, H3, I4, qn⟩
  · refine wpAny_passesOwn hp (thn (T.item X rfl rfl rfl hc i pins s3 σ3 H3 X.xe I3 (stat fr3) st3 go) fun r s4 ⟨u, hr, h4⟩ => ?_)
    subst hr
    refine wpAny_passesOwn hp (thn h4 fun _ s5 ⟨x, H5, I5, r5, y5, st5, fr5⟩ => ?_)
    have I5' := I5.pinned (stat fr5) (T.obj _ _ st5)
    refine wpAny_passesOwn hp (thn (hg _ s5 σ3 H5 x u _ I5' r5 (step x H5 y5)) fun _ s6 ⟨σ6, H6, I6, q6⟩ => ?_)
    refine wpAny_passesOwn hp (thn (hb _ s6 σ6 H6 _ I6 q6) fun f s7 q7 => ?_)
    have again : ∀ {σ7 : St} {H7 : Hp}, Inv X (pins ++ m6 fp s5.heap) σ7 H7 s7 → N σ7 H7 → ∃ m, m < n ∧ ∃ i σ' H', Inv X pins σ' H' s7 ∧ tn i s7.heap ∧ (∀ b ∈ fp, H' b = none) ∧ W i m σ' H' := fun {σ7 H7} I7 n7 => by
      obtain ⟨m', hm, w7⟩ := hN σ7 H7 n7
      refine ⟨m', hm, i + 1, σ7, H7, I7.unpinned, T.keep _ _ _ st5 fun b hb o e => (I7.pin (b, o) (List.mem_append_right _ (List.mem_append_right _ (gZ hb e)))).1, fun b hb => ?_, w7⟩
      obtain ⟨o, e, d⟩ := T.obj _ _ st5 b hb
      exact (I7.pin (b, o) (List.mem_append_right _ (List.mem_append_right _ (gZ hb e)))).2.1
    cases f with
    | next => obtain ⟨σ7, H7, I7, n7⟩ := q7; exact again I7 n7
    | cont => obtain ⟨σ7, H7, I7, n7⟩ := q7; exact again I7 n7
    | brk => obtain ⟨σ7, H7, I7, q7⟩ := q7; exact ⟨σ7, H7, I7.unpinned, q7⟩
    | ret v => obtain ⟨x7, σ7, H7, I7, r7, q7⟩ := q7; exact ⟨x7, σ7, H7, I7.unpinned, r7, q7⟩
end
end L2
namespace L2
open PySem PySem.Spec PyProof.Rows
abbrev R2 := V → V → Hp → VK → Prop
def OpR (X : Cx) (f : Value → Value → Sem Value) (r : R2) : Prop :=
  ∀ (pins : List (Addr × Obj)) (s : Shared) (σ : St) (H : Hp) (x y : V) (v u : Value) (Q : VK), Inv X pins σ H s → bB x v → bB y u → r x y H Q →
    wpAny (model X.prog X.w) X.A (f v u) (EP X pins σ Q) X.xe s
def UnR (X : Cx) (f : Value → Sem Value) (r : V → Hp → VK → Prop) : Prop :=
  ∀ (pins : List (Addr × Obj)) (s : Shared) (σ : St) (H : Hp) (x : V) (v : Value) (Q : VK), Inv X pins σ H s → bB x v → r x H Q →
    wpAny (model X.prog X.w) X.A (f v) (EP X pins σ Q) X.xe s
def eR (X : Cx) (f : Value) (r : List V → Hp → VK → Prop) : Prop :=
  ∀ (pins : List (Addr × Obj)) (s : Shared) (σ : St) (H : Hp) (xs : List V) (us : List Value) (Q : VK), Inv X pins σ H s → aV xs us → r xs H Q →
    wpAny (model X.prog X.w) X.A (call f us) (EP X pins σ Q) X.xe s
def tOp (r : R2) (ta tb : TE) : TE := fun σ H Q => ta σ H fun x H1 => tb σ H1 fun y H2 => r x y H2 Q
def tUn (r : V → Hp → VK → Prop) (ta : TE) : TE := fun σ H Q => ta σ H fun x H1 => r x H1 Q
def rI (C : Int → Int → Prop) (g : Int → Int → V) : R2 := fun x y H Q => ∃ i j, x = .int i ∧ y = .int j ∧ C i j ∧ Q (g i j) H
def rI0 (g : Int → Int → V) : R2 := fun x y H Q => ∃ i j, x = .int i ∧ y = .int j ∧ Q (g i j) H
def rU (g : Int → V) : V → Hp → VK → Prop := fun x H Q => ∃ i, x = .int i ∧ Q (g i) H
section
variable {X : Cx} {a b c : Expr} {ta tb tc : TE} {pos : Pos}
theorem F4 (ha : PE X a ta) (hb : PE X b tb) {pins : List (Addr × Obj)} {s : Shared} {σ : St} {H : Hp} {R : V → V → Hp → Prop} (I : Inv X pins σ H s)
    (h : ta σ H fun x H1 => tb σ H1 fun y H2 => R x y H2) {Q : Value → Shared → Prop} {f : Value → Value → Sem Value}
    (hf : ∀ v u s2 x y H2, Inv X pins σ H2 s2 → bB x v → bB y u → R x y H2 → wpAny (model X.prog X.w) X.A (f v u) Q X.xe s2) :
    wpAny (model X.prog X.w) X.A (eval a X.env) (fun v s₁ => wpAny (model X.prog X.w) X.A (eval b X.env) (fun u s₂ => wpAny (model X.prog X.w) X.A (f v u) Q X.xe s₂) X.xe s₁) X.xe s := by
  refine thn (ha pins s σ H _ I h) fun v s1 ⟨x, H1, I1, r1, q1⟩ => ?_
  refine thn (hb pins s1 σ H1 _ I1 q1) fun u s2 ⟨y, H2, I2, r2, q2⟩ => ?_
  exact hf v u s2 x y H2 I2 r1 r2 q2
theorem BU {op : Operator} {r : R2} (ho : OpR X (binaryOp op) r) (ha : PE X a ta) (hb : PE X b tb) : PE X (.BinOp a op b pos) (tOp r ta tb) := by
  intro pins s σ H Q I h
  exact wpAny_BinOp (F4 ha hb I h fun v u s2 x y H2 I2 rx ry q => ho pins s2 σ H2 x y v u Q I2 rx ry q)
theorem HU {op : UnaryOp} {r : V → Hp → VK → Prop} (ho : UnR X (unaryOp op) r) (ha : PE X a ta) : PE X (.UnaryOp op a pos) (tUn r ta) := by
  intro pins s σ H Q I h
  exact UnaryOp_ (thn (ha pins s σ H _ I h) fun v s1 ⟨x, H1, I1, r1, q1⟩ => ho pins s1 σ H1 x v Q I1 r1 q1)
theorem opI {f : Value → Value → Sem Value} {C : Int → Int → Prop} {g : Int → Int → Int}
    (rule : ∀ (i j : Int) (t u : Tok) (s : Shared) (Q : Value → Shared → Prop) (E : Value → Shared → Prop), C i j → Q (.int (g i j) s.toks) { s with toks := s.toks + 1 } → wpAny (model X.prog X.w) X.A (f (.int i t) (.int j u)) Q E s) :
    OpR X f (rI C fun i j => .int (g i j)) := by
  intro pins s σ H x y v u Q I rx ry h
  obtain ⟨i, j, rfl, rfl, hc, q⟩ := h
  obtain ⟨t, rfl⟩ := rx
  obtain ⟨t', rfl⟩ := ry
  exact rule i j t t' s _ _ hc ⟨.int (g i j), H, I.tok _, ⟨_, rfl⟩, q⟩
theorem HV {f : Value → Value → Sem Value} {g : Int → Int → Int}
    (rule : ∀ (i j : Int) (t u : Tok) (s : Shared) (Q : Value → Shared → Prop) (E : Value → Shared → Prop), Q (.int (g i j) s.toks) { s with toks := s.toks + 1 } → wpAny (model X.prog X.w) X.A (f (.int i t) (.int j u)) Q E s) :
    OpR X f (rI0 fun i j => .int (g i j)) := by
  intro pins s σ H x y v u Q I rx ry h
  obtain ⟨i, j, rfl, rfl, q⟩ := h
  obtain ⟨t, rfl⟩ := rx
  obtain ⟨t', rfl⟩ := ry
  exact rule i j t t' s _ _ ⟨.int (g i j), H, I.tok _, ⟨_, rfl⟩, q⟩
theorem F5 {f : Value → Value → Sem Value} {g : Int → Int → Bool}
    (rule : ∀ (i j : Int) (t u : Tok) (s : Shared) (Q : Value → Shared → Prop) (E : Value → Shared → Prop), Q (.bool (g i j)) s → wpAny (model X.prog X.w) X.A (f (.int i t) (.int j u)) Q E s) :
    OpR X f (rI0 fun i j => .bl (g i j)) := by
  intro pins s σ H x y v u Q I rx ry h
  obtain ⟨i, j, rfl, rfl, q⟩ := h
  obtain ⟨t, rfl⟩ := rx
  obtain ⟨t', rfl⟩ := ry
  exact rule i j t t' s _ _ ⟨.bl (g i j), H, I, rfl, q⟩
def HW (i j : Int) : Prop := 0 ≤ j ∧ j ≤ 1000000 ∧ i.natAbs < 2 ^ 64
def D3 (i j : Int) : Prop := (-(2 ^ 64) < i ∧ i < 2 ^ 64) ∨ (-(2 ^ 64) < j ∧ j < 2 ^ 64)
theorem D3.ok {i j : Int} (h : D3 i j) : IntMulOk i j := by
  rcases h with ⟨h1, h2⟩ | ⟨h1, h2⟩
  · exact .of_left (intBits_le_64 h1 h2)
  · exact .of_right (intBits_le_64 h1 h2)
theorem F6 : OpR X (binaryOp .Add) (rI0 fun i j => .int (i + j)) := HV fun _ _ _ _ _ _ _ q => add_int q
theorem m7 : OpR X (binaryOp .Sub) (rI0 fun i j => .int (i - j)) := HV fun _ _ _ _ _ _ _ q => sub_int q
theorem g0 : OpR X (binaryOp .Mult) (rI D3 fun i j => .int (i * j)) := opI fun _ _ _ _ _ _ _ hc q => mul_int q hc.ok
theorem cY : OpR X (binaryOp .Mod) (rI (fun _ j => 0 < j) fun i j => .int (i % j)) := opI fun i j _ _ _ _ _ hc q => by
  have h1 : (0 : Int) < j := hc
  exact mod_int' (by omega) (by rw [Int.fmod_eq_emod_of_nonneg i (by omega)]; exact q)
theorem BV : OpR X (binaryOp .Pow) (rI HW fun i j => .int (i ^ j.toNat)) := opI fun _ _ _ _ _ _ _ hc q => pow_int_small hc.1 hc.2.1 hc.2.2 q
theorem unI {f : Value → Sem Value} {g : Int → Int}
    (rule : ∀ (i : Int) (t : Tok) (s : Shared) (Q : Value → Shared → Prop) (E : Value → Shared → Prop), Q (.int (g i) s.toks) { s with toks := s.toks + 1 } → wpAny (model X.prog X.w) X.A (f (.int i t)) Q E s) :
    UnR X f (rU fun i => .int (g i)) := by
  intro pins s σ H x v Q I rx h
  obtain ⟨i, rfl, q⟩ := h
  obtain ⟨t, rfl⟩ := rx
  exact rule i t s _ _ ⟨.int (g i), H, I.tok _, ⟨_, rfl⟩, q⟩
theorem F7 : UnR X (unaryOp .USub) (rU fun i => .int (-i)) := unI fun _ _ _ _ _ q => neg_int q
end
section
variable {X : Cx} {a b c : Expr} {ta tb tc : TE} {pos : Pos}
theorem sK {pins : List (Addr × Obj)} {σ : St} {H : Hp} {s : Shared} {Q : VK} {k k' : Bool} (I : Inv X pins σ H s) (q : Q (.bl k) H) (e : k = k') : EP X pins σ Q (.bool k') s := by
  subst e
  exact ⟨.bl k, H, I, rfl, q⟩
theorem HX : OpR X (compareOp .Lt) (rI0 fun i j => .bl (decide (i < j))) := F5 fun _ _ _ _ _ _ _ q => lt_int q
theorem BW : OpR X (compareOp .LtE) (rI0 fun i j => .bl (decide (i ≤ j))) := F5 fun _ _ _ _ _ _ _ q => le_int q
theorem Fx : OpR X (compareOp .Gt) (rI0 fun i j => .bl (decide (j < i))) := F5 fun _ _ _ _ _ _ _ q => gt_int q
theorem sL : OpR X (compareOp .Is) (fun x y H Q => y = .non ∧ Q (.bl (decide (x = .non))) H) := by
  intro pins s σ H x y v u Q I rx ry h
  obtain ⟨rfl, q⟩ := h
  cases ry
  refine is_none_gen (sK I q ?_)
  cases x <;> first
    | (cases rx; rfl)
    | (obtain ⟨t, rfl⟩ := rx; rfl)
theorem mM : OpR X (compareOp .IsNot) (fun x y H Q => y = .non ∧ Q (.bl (!decide (x = .non))) H) := by
  intro pins s σ H x y v u Q I rx ry h
  obtain ⟨rfl, q⟩ := h
  cases ry
  refine isnot_none_gen (sK I q ?_)
  cases x <;> first
    | (cases rx; rfl)
    | (obtain ⟨t, rfl⟩ := rx; rfl)
theorem OpR.or {f : Value → Value → Sem Value} {r r' : R2} (h : OpR X f r) (h' : OpR X f r') : OpR X f (fun x y H Q => r x y H Q ∨ r' x y H Q) := by
  intro pins s σ H x y v u Q I rx ry q
  rcases q with q | q
  · exact h pins s σ H x y v u Q I rx ry q
  · exact h' pins s σ H x y v u Q I rx ry q
theorem aW (b : Expr) {op : CmpOp} (h : op ≠ .In := by decide) (h2 : op ≠ .NotIn := by decide) : behindInMarks op b = false := by
  have e1 : (op == CmpOp.In) = false := by cases op <;> first | rfl | exact absurd rfl h
  have e2 : (op == CmpOp.NotIn) = false := by cases op <;> first | rfl | exact absurd rfl h2
  cases b <;> simp [behindInMarks, e1, e2]
theorem D4 {op : CmpOp} {r : R2} (ho : OpR X (compareOp op) r) (ha : PE X a ta) (hb : PE X b tb) (hm : behindInMarks op b = false) : PE X (.Compare a [op] [b] pos) (tOp r ta tb) := by
  intro pins s σ H Q I h
  exact wpAny_Compare1 (F4 ha hb I h fun v u s2 x y H2 I2 rx ry q => ho pins s2 σ H2 x y v u Q I2 rx ry q) hm
def HY (t : TE) : TT := fun σ H Q => t σ H fun x H' => ∃ k, x = .bl k ∧ Q k H'
theorem D5 {op : CmpOp} {r : R2} (ho : OpR X (compareOp op) r) (ha : PE X a ta) (hb : PE X b tb) (hm : behindInMarks op b = false) : PT X (.Compare a [op] [b] pos) (HY (tOp r ta tb)) := by
  intro pins s σ H Q I h
  refine wpAny_isTrue_Compare1 (thn (ha pins s σ H _ I h) fun v s1 ⟨x, H1, I1, r1, q1⟩ => thn (hb pins s1 σ H1 _ I1 q1) fun u s2 ⟨y, H2, I2, r2, q2⟩ =>
    thn (ho pins s2 σ H2 x y v u _ I2 r1 r2 q2) fun c s3 ⟨z, H3, I3, r3, k, e, q3⟩ => ?_) hm
  subst e
  cases r3
  exact wpAny_truthy_bool ⟨H3, I3, q3⟩
def BX (r r' : R2) (ta tb tc : TE) : TE := fun σ H Q => ta σ H fun x H1 => tb σ H1 fun y H2 => r x y H2 fun z H3 => ∃ k, z = .bl k ∧
  (if k = true then tc σ H3 fun w' H4 => r' y w' H4 Q else Q (.bl false) H3)
theorem BY {op op' : CmpOp} {r r' : R2} (ho : OpR X (compareOp op) r) (ho' : OpR X (compareOp op') r') (ha : PE X a ta) (hb : PE X b tb) (hc : PE X c tc)
    (hm : lastMarks [op, op'] [b, c] = false := by with_unfolding_all rfl) : PE X (.Compare a [op, op'] [b, c] pos) (BX r r' ta tb tc) := by
  intro pins s σ H Q I h
  refine Compare_chain (thn (ha pins s σ H _ I h) fun v s1 ⟨x, H1, I1, r1, q1⟩ => chain_link (thn (hb pins s1 σ H1 _ I1 q1) fun u s2 ⟨y, H2, I2, r2, q2⟩ =>
    thn (ho pins s2 σ H2 x y v u _ I2 r1 r2 q2) fun d s3 ⟨z, H3, I3, r3, k, e, q3⟩ => ?_)) hm
  subst e
  cases r3
  refine wpAny_truthy_bool ?_
  cases k with
  | false => exact ite_ff ⟨.bl false, H3, I3, rfl, q3⟩
  | true => exact ite_tt (chain_last (thn (hc pins s3 σ H3 _ I3 q3) fun w' s4 ⟨z', H4, I4, r4, q4⟩ => ho' pins s4 σ H4 y z' u w' Q I4 r2 r4 q4))
theorem m8 : (sizeLine : Nat) < 2 ^ 63 := by rw [sizeLine_eq]; decide
theorem qY {x : V} {us : List Value} (r : aV [x] us) : ∃ u, us = [u] ∧ bB x u := by
  cases r with
  | cons r1 r2 => cases r2; exact ⟨_, rfl, r1⟩
theorem HZ {x y : V} {us : List Value} (r : aV [x, y] us) : ∃ u w', us = [u, w'] ∧ bB x u ∧ bB y w' := by
  cases r with
  | cons r1 r2 =>
    cases r2 with
    | cons r3 r4 => cases r4; exact ⟨_, _, rfl, r1, r3⟩
theorem zX (hc : X.calm = true) : eR X (.builtin "max") (fun xs H Q => ∃ i j, xs = [.int i, .int j] ∧ Q (.int (if j > i then j else i)) H) := by
  intro pins s σ H xs us Q I r h
  obtain ⟨i, j, rfl, q⟩ := h
  obtain ⟨u, w', rfl, ⟨t, rfl⟩, ⟨t', rfl⟩⟩ := HZ r
  refine max_two_ints (I.ok.hd hc) fun h' tk k => ⟨_, H, I.kept k, ?_, q⟩
  by_cases hj : j > i
  · rw [if_pos hj, if_pos hj]; exact ⟨_, rfl⟩
  · rw [if_neg hj, if_neg hj]; exact ⟨_, rfl⟩
theorem zY : eR X (.type "int") (fun xs H Q => (∃ i, xs = [.int i] ∧ Q (.int i) H) ∨ ∃ k, xs = [.bl k] ∧ Q (.int (if k then 1 else 0)) H) := by
  intro pins s σ H xs us Q I r h
  rcases h with ⟨i, rfl, q⟩ | ⟨k, rfl, q⟩
  · obtain ⟨u, rfl, t, rfl⟩ := qY r
    exact call_int_int ⟨.int i, H, I, ⟨_, rfl⟩, q⟩
  · obtain ⟨u, rfl, r1⟩ := qY r
    cases r1
    exact call_int_bool ⟨.int (if k then 1 else 0), H, I.tok _, ⟨_, rfl⟩, q⟩
theorem sM : eR X (.type "str") (fun xs H Q => ∃ i, xs = [.int i] ∧ i.natAbs.log2 < 1920 ∧ Q (.str (toString i)) H) := by
  intro pins s σ H xs us Q I r h
  obtain ⟨i, rfl, hz, q⟩ := h
  obtain ⟨u, rfl, t, rfl⟩ := qY r
  exact PySem.P.str_of_int hz ⟨.str _, H, I.tok _, ⟨_, rfl⟩, q⟩
end
end L2
namespace L2
open PySem PySem.Spec PyProof.Rows
structure Jx (h : Heap) (x dx C : Addr) (mA : Str → Option Value) : Prop where
  obj : h.get? x = some (PySem.W.instObj C dx)
  ns : h.Ns1 dx mA
  ne : dx ≠ x
section
variable {prog : Program} {w : World} {A : Around} {E : Value → Shared → Prop} {s : Shared} {K : PySem.W.Frag} {x dx C f : Addr} {mA : Str → Option Value} {name : Str} {v : Value}
end
section
variable {P : Program} {w : World} {H H' : Hp} {h h' : Heap} {a C dx : Addr} {fs fs' : List (Str × V)}
end
structure Cls (K : PySem.W.Frag) (C : Addr) : Prop where
  pg : PySem.W.plainGet K C Str.empty = true
  hd : PySem.W.hasDictIn K C = true
  po : PySem.W.plainOver K C = true
  sa : PySem.W.findIn K (.ref C) "__setattr__" = some (some (.builtin "object.__setattr__"))
structure Con (K : PySem.W.Frag) (C : Addr) (f : Str) (v : V) (u : Value) : Prop where
  at_ : PySem.W.findIn K (.ref C) f = some (some u)
  rel : bB v u
  get : PySem.W.specialIn K u "__get__" = some none
  cp : PySem.W.copiedNames.contains f = false
structure Jy (K : PySem.W.Frag) (C : Addr) (m : Str) (f : Addr) : Prop where
  at_ : PySem.W.findIn K (.ref C) m = some (some (.ref f))
  fn : PySem.W.isFn K (.ref f) = true
  kp : PySem.W.keepIn K (.ref f) = true
section
variable {X : Cx} {pins : List (Addr × Obj)} {σ : St} {H : Hp} {s : Shared} {a C dx : Addr} {fs : List (Str × V)} {f : Str} {v : V} {A : Around} {E : Value → Shared → Prop}
end
section
variable {X : Cx} {o e value : Expr} {f : Str} {pos pos' tpos : Pos} {ta tv : TE}
end
section
variable {X : Cx} {pins : List (Addr × Obj)} {σ : St} {H : Hp} {s : Shared} {A : Around} {E : Value → Shared → Prop} {Q : Value → Shared → Prop} {c : Value} {b : Bool}
inductive m9 (K : PySem.W.Frag) (H : Hp) : V → Value → Prop where
  | non : m9 K H .non (.type "NoneType")
  | bl (x : Bool) : m9 K H (.bl x) (.type "bool")
  | int (i : Int) : m9 K H (.int i) (.type "int")
  | str (x : Str) : m9 K H (.str x) (.type "str")
  | flt (x : UInt64) : m9 K H (.flt x) (.type "float")
  | lst {a : Addr} {xs : List V} (e : H a = some (.lst xs)) : m9 K H (.ref a) (.type "list")
  | frz {a : Addr} {o : Obj} {xs : List V} (e : H a = some (.frz o (.lst xs))) : m9 K H (.ref a) (.type "list")
  | tup {a : Addr} {xs : List V} (e : H a = some (.tup xs)) : m9 K H (.ref a) (.type "tuple")
  | dK {a : Addr} {kvs : List (Key × V)} (e : H a = some (.dK kvs)) : m9 K H (.ref a) (.type "dict")
  | dT {a : Addr} {kvs : List (List Key × V)} (e : H a = some (.dT kvs)) : m9 K H (.ref a) (.type "dict")
  | ins {a C dx : Addr} {fs : List (Str × V)} (e : H a = some (.ins C dx fs)) (cl : Cls K C) (ha : PySem.W.findIn K (.ref C) "__class__" = some (some (.builtin "object.__class__")))
      (hn : PySem.W.specialIn K (.builtin "object.__class__") "__get__" = some (some (.builtin "getset_descriptor.__get__"))) (htk : PySem.W.takesIn K (.builtin "object.__class__") = some true)
      (hm : PySem.W.mroIn K C (.type "object") = some true) : m9 K H (.ref a) (.ref C)
end
end L2
namespace L2
open PySem PySem.Spec PyProof.Rows
structure fZ (k : Nat) (A : Around) : Prop where
  hd : A.handled = none
  dp : A.depth + 3 * k + 5 < recursionLimit
  un : A.units + 16 * k + 200 < cLine
theorem fZ.mono {j k : Nat} {A : Around} (r : fZ k A) (h : j ≤ k) : fZ j A := ⟨r.hd, by have := r.dp; omega, by have := r.un; omega⟩
theorem fZ.deeper {k : Nat} {A : Around} (r : fZ (k + 1) A) (env : Env) : fZ k (A.deeper env) :=
  ⟨r.hd, by have := r.dp; show A.depth + 1 + 3 * k + 5 < _; omega, by have := r.un; show A.units + 3 + 16 * k + 200 < _; omega⟩
theorem fZ.depth {k : Nat} {A : Around} (r : fZ k A) : A.depth < recursionLimit := by have := r.dp; omega
def Jg : TA := fun _ H Q => Q [] H
def Ia (ta : TE) (tr : TA) : TA := fun σ H Q => ta σ H fun x H1 => tr σ H1 fun xs H2 => Q (x :: xs) H2
section
variable {X : Cx} {e : Expr} {es : List Expr} {te : TE} {t : TA} {pos : Pos}
theorem c9 : PA X [] Jg := fun _ _ _ _ H Q I h => Calls.spliced_nil ⟨[], H, I, .nil, h⟩
theorem bD (ha : PE X e te) (hr : PA X es t) (hs : starEach (e :: es) X.env = (false, eval e X.env) :: starEach es X.env := by rfl) : PA X (e :: es) (Ia te t) := by
  intro pos pins s σ H Q I h
  rw [hs]
  show wpAny _ _ (spliced ((false, eval e X.env) :: backTo pos (starEach es X.env))) _ _ s
  refine Calls.spliced_cons (thn (ha pins s σ H _ I h) fun u s1 ⟨x, H1, I1, r1, q1⟩ => ?_)
  exact thn (hr pos pins s1 σ H1 _ I1 q1) fun us s2 ⟨xs, H2, I2, r2, q2⟩ => ⟨x :: xs, H2, I2, .cons r1 r2, q2⟩
def Jh (t : TA) : TE := fun σ H Q => t σ H fun xs H1 => xs.length ≤ sizeLine ∧ ∀ p, H1 p = none → Q (.ref p) (upd H1 p (.tup xs))
def Ji (t : TA) : TE := fun σ H Q => t σ H fun xs H1 => xs.length ≤ sizeLine ∧ ∀ p, H1 p = none → Q (.ref p) (upd H1 p (.lst xs))
theorem BZ {x1} (h : PA X es t) : PE X (.Tuple es x1 pos) (Jh t) := by
  intro pins s σ H Q I hq
  refine wpAny_Tuple_spliced (thn (h pos pins s σ H _ I hq) fun us s1 ⟨xs, H1, I1, r, z, q⟩ => ⟨by rw [← r.length]; exact z, ?_⟩)
  have hf : H1 s1.heap.objs.size = none := I1.hok.fresh (Nat.le_refl _)
  refine ⟨.ref s1.heap.objs.size, upd H1 s1.heap.objs.size (.tup xs), I1.laid (t' := s1.toks) (fun b u e => Heap.get?_push_of_some _ e) (Nat.le_refl _) ?_, rfl, q _ hf⟩
  exact ⟨z, us, r, ⟨_, Heap.get?_push_size _ rfl, rfl, _, rfl⟩⟩
theorem F8 (h : PA X es t) : PE X (.List es pos) (Ji t) := by
  intro pins s σ H Q I hq
  refine wpAny_List_spliced (thn (h pos pins s σ H _ I hq) fun us s1 ⟨xs, H1, I1, r, z, q⟩ => ⟨by rw [← r.length]; exact z, ?_⟩)
  have hf : H1 s1.heap.objs.size = none := I1.hok.fresh (Nat.le_refl _)
  refine ⟨.ref s1.heap.objs.size, upd H1 s1.heap.objs.size (.lst xs), I1.laid (t' := s1.toks) (fun b u e => Heap.get?_push_of_some _ e) (Nat.le_refl _) ?_, rfl, q _ hf⟩
  exact ⟨z, us, 0, r, Heap.get?_push_size _ rfl⟩
end
abbrev Sp := List V → Hp → VK → XK → Prop
abbrev CXT := List Env → Hp → Shared → XK → Value → Shared → Prop
structure D6 (P : Program) (w : World) (K : PySem.W.Frag) (mg : Str → Option Value) (base : Heap) (A : Around) (outer : List Env) (s : Shared) (H : Hp) : Prop where
  frames : A.frames = some outer
  mod : Mod K mg base
  bs : ∀ b o, base.get? b = some o → s.heap.get? b = some o ∧ H b = none
  bsz : base.objs.size ≤ s.heap.objs.size
  funs : s.heap.FunFrames base outer
  frf : ∀ b ∈ frs outer, H b = none
  hok : HOk P w H s.heap
  bare : AllBare s.gens
def CE (outer : List Env) (P : Program) (w : World) (H : Hp) (s : Shared) (Q : VK) (u : Value) (s' : Shared) : Prop :=
  ∃ v H', s'.os = s.os ∧ AllBare s'.gens ∧ Un (frs outer) [] H H' s.heap s'.heap ∧ HOk P w H' s'.heap ∧ bB v u ∧ Q v H'
def CR (CX : CXT) (outer : List Env) (P : Program) (w : World) (H : Hp) (s : Shared) (Q : VK) (E : XK) (r : Result) (s' : Shared) : Prop :=
  match r with
  | .ok (.ret u) => CE outer P w H s Q u s'
  | .ok _ => False
  | .error e => CX outer H s E e s'
structure ce (P : Program) (w : World) (K : PySem.W.Frag) (mg : Str → Option Value) (base : Heap) (CX : CXT) (k : Nat) (f : Addr) (fd : FuncData) (ps : List Str) (sp : Sp) : Prop where
  len : ∀ vs H Q E, sp vs H Q E → vs.length = ps.length
  run : ∀ (A : Around) (outer : List Env) (s : Shared) (H : Hp) (args : Args) (us : List Value) (vs : List V) (Q : VK) (E : XK), fZ k A → D6 P w K mg base A outer s H → BindsTo s fd args (ps.zip us) → aV vs us → sp vs H Q E →
    codeAny (model P w) A (.call (.ref f) args) (CR CX outer P w H s Q E) s
section
variable {X : Cx} {pins : List (Addr × Obj)} {σ : St} {H : Hp} {s s' : Shared}
theorem Inv.env0 (I : Inv X pins σ H s) : D6 X.prog X.w X.K X.mg X.base X.A X.stack s H :=
  ⟨I.ok.frames, I.ok.mod, I.bs, Nat.le_trans I.ok.bsz I.sz, I.stack, I.stkFree, I.hok, I.bare⟩
theorem Inv.after {Q : VK} {u : Value} (I : Inv X pins σ H s) (h : CE X.stack X.prog X.w H s Q u s') : EP X pins σ Q u s' := by
  obtain ⟨v, H', os, bare, un, hok, r, q⟩ := h
  obtain ⟨hh, g, d, t, os'⟩ := s'
  obtain rfl : os' = s.os := os
  exact ⟨v, H', I.call (h' := hh) (g' := g) (d' := d) (t' := t) (ch := []) un hok bare (fun b z => absurd z (by simp)), r, q⟩
end
def Ib (sp : Sp) (dvs : List V) (E : XK) (t : TA) : TE := fun σ H Q => t σ H fun vs H1 => sp (vs ++ dvs) H1 Q E
def iO (K : PySem.W.Frag) (fd : FuncData) (ps : List Str) (ds : List Value) : Prop :=
  ∀ (s : Shared) (us : List Value), K.In s.heap → (us ++ ds).length = ps.length → BindsTo s fd ⟨us, []⟩ (ps.zip (us ++ ds))
theorem iO.all {K : PySem.W.Frag} {fd : FuncData} {ps : List Str} (h : ∀ us : List Value, us.length = ps.length → bindArgs fd ⟨us, []⟩ = pure (ps.zip us)) : iO K fd ps [] := fun s us _ hl => by
  rw [List.append_nil] at hl ⊢
  exact .of_eq (h us hl)
def nc (CX : CXT) (X : Cx) (E : XK) : Prop := ∀ (pins : List (Addr × Obj)) (σ : St) (H : Hp) (s : Shared) (e : Value) (s' : Shared), Inv X pins σ H s → CX X.stack H s E e s' → X.xe e s'
section
variable {X : Cx} {CX : CXT} {k : Nat} {f C : Addr} {fd : FuncData} {ps : List Str} {sp : Sp} {dvs : List V} {ds : List Value} {E : XK} {x m : Str} {p pos apos : Pos} {e o : Expr} {es : List Expr} {ta : TE} {t : TA}
theorem F9 {pins : List (Addr × Obj)} {σ : St} {H : Hp} {s : Shared} {Q : VK} {us : List Value} {vs : List V} (F : ce X.prog X.w X.K X.mg X.base CX k f fd ps sp) (hr : fZ k X.A) (hb : iO X.K fd ps ds) (hd : aV dvs ds) (hx : nc CX X E)
    (I : Inv X pins σ H s) (r : aV vs us) (h : sp (vs ++ dvs) H Q E) : wpAny (model X.prog X.w) X.A (call (.ref f) us) (EP X pins σ Q) X.xe s := by
  have r2 : aV (vs ++ dvs) (us ++ ds) := r.append hd
  have hl : (us ++ ds).length = ps.length := by rw [← r2.length]; exact F.len _ _ _ _ h
  refine wpAny_call (codeAny_mono (F.run X.A X.stack s H ⟨us, []⟩ (us ++ ds) (vs ++ dvs) Q E hr I.env0 (hb s us I.kIn hl) r2 h) fun r s' hq => ?_)
  cases r with
  | error e => exact hx pins σ H s e s' I hq
  | ok fl =>
    cases fl with
    | ret u => exact I.after hq
    | next => exact False.elim hq
    | brk => exact False.elim hq
    | cont => exact False.elim hq
theorem y7 (F : ce X.prog X.w X.K X.mg X.base CX k f fd ps sp) (hr : fZ k X.A) (hg : Gl X x) (hm : X.mg x = some (.ref f)) (hk : PySem.W.keepIn X.K (.ref f) = true) (hb : iO X.K fd ps ds) (hd : aV dvs ds) (hx : nc CX X E)
    (ha : PA X (e :: es) t) (hdb : (x == ("__debug__" : Str)) = false := by decide) (he : starEach (e :: es) X.env = (false, eval e X.env) :: starEach es X.env := by rfl) (hpl : (backTo pos (starEach es X.env)).any (·.1) = false := by rfl) :
    PE X (.Call (.Name x p) (e :: es) [] pos) (Ib sp dvs E t) := by
  intro pins s σ H Q I h
  refine wpAny_Call_Name_kw (sG I hg hm ?_ hdb)
  refine PySem.W.callWith_K (h₀ := X.base) I.ok.mod.kin hk (thn (ha pos pins s σ H _ I h) fun us s1 ⟨vs, H1, I1, r, q⟩ => ⟨I1.kIn, ?_⟩) he hpl
  exact F9 F hr hb hd hx I1 r q
structure Mk (K : PySem.W.Frag) (C f : Addr) : Prop where
  makes : PySem.W.makesIn K C = true
  init : PySem.W.findIn K (.ref C) "__init__" = some (some (.ref f))
  fn : PySem.W.isFn K (.ref f) = true
  kp : PySem.W.keepIn K (.ref C) = true
end
section
variable {X : Cx} {CX : CXT} {k : Nat} {f C : Addr} {fd : FuncData} {ps ks : List Str} {sp : Sp} {E : XK} {x m : Str} {p pos apos kpos : Pos} {e o : Expr} {es : List Expr} {kws : List Keyword} {te ta : TE} {t tk : TA} {nm : Option Str}
structure Jj (K : PySem.W.Frag) (fd : FuncData) (ps ks : List Str) (g : List Value → List Value → List Value) (gV : List V → List V → List V) : Prop where
  to : ∀ (s : Shared) (us ws : List Value), K.In s.heap → (g us ws).length = ps.length → BindsTo s fd ⟨us, ks.zip ws⟩ (ps.zip (g us ws))
  rel : ∀ {vs : List V} {us : List Value} {zs : List V} {ws : List Value}, aV vs us → aV zs ws → aV (gV vs zs) (g us ws)
variable {g : List Value → List Value → List Value} {gV : List V → List V → List V}
end
structure aX (N P : List Str) (sc : Scope) : Prop where
  kind : sc.kind = .function
  co : sc.isCoroutine = false
  gen : sc.isGenerator = false
  nd : N.Nodup
  pre : N.take P.length = P
  par : ∀ x ∈ P, sc.names.lookup x = some .local ∨ sc.names.lookup x = some .cell
  nofree : ∀ y ∈ sc.names, y.2 ≠ .free
theorem qZ {kindOf : Str → Option NameKind} {x : Str} : ∀ {binds : List (Str × Value)} {m : Str → Option Value}, (∀ v, (x, v) ∉ binds) → bindL kindOf binds m x = m x
  | [], _, _ => rfl
  | (n, v) :: r, m, h => by
    unfold bindL
    rw [qZ fun w hw => h w (List.mem_cons_of_mem _ hw)]
    split
    · have : x ≠ n := by rintro rfl; exact h v List.mem_cons_self
      simp [this]
    · rfl
theorem rc {kindOf : Str → Option NameKind} {x : Str} : ∀ {binds : List (Str × Value)} {m : Str → Option Value}, (∀ v, (x, v) ∉ binds) → bindC kindOf binds m x = m x
  | [], _, _ => rfl
  | (n, v) :: r, m, h => by
    unfold bindC
    rw [rc fun w hw => h w (List.mem_cons_of_mem _ hw)]
    split
    · rfl
    · have : x ≠ n := by rintro rfl; exact h v List.mem_cons_self
      simp [this]
theorem re {kindOf : Str → Option NameKind} {x : Str} {v : Value} : ∀ {P : List Str} {vs : List Value} {i : Nat} {m : Str → Option Value}, P.Nodup → P[i]? = some x → vs[i]? = some v → kindOf x = some .local →
    bindL kindOf (P.zip vs) m x = some v
  | [], _, _, _, _, h, _, _ => by simp at h
  | _ :: _, [], _, _, _, _, h, _ => by simp at h
  | p :: P, w :: vs, 0, m, nd, h1, h2, hk => by
    simp at h1 h2; subst h1; subst h2
    show bindL kindOf ((p, w) :: P.zip vs) m p = _
    unfold bindL
    rw [qZ fun v hv => (List.nodup_cons.mp nd).1 (List.of_mem_zip hv).1, if_pos hk]
    simp
  | p :: P, w :: vs, i + 1, m, nd, h1, h2, hk => by
    show bindL kindOf ((p, w) :: P.zip vs) m x = _
    unfold bindL
    exact re (i := i) (List.nodup_cons.mp nd).2 (by simpa using h1) (by simpa using h2) hk
theorem rg {kindOf : Str → Option NameKind} {x : Str} {v : Value} : ∀ {P : List Str} {vs : List Value} {i : Nat} {m : Str → Option Value}, P.Nodup → P[i]? = some x → vs[i]? = some v → kindOf x ≠ some .local →
    bindC kindOf (P.zip vs) m x = some v
  | [], _, _, _, _, h, _, _ => by simp at h
  | _ :: _, [], _, _, _, _, h, _ => by simp at h
  | p :: P, w :: vs, 0, m, nd, h1, h2, hk => by
    simp at h1 h2; subst h1; subst h2
    show bindC kindOf ((p, w) :: P.zip vs) m p = _
    unfold bindC
    rw [rc fun v hv => (List.nodup_cons.mp nd).1 (List.of_mem_zip hv).1, if_neg hk]
    simp
  | p :: P, w :: vs, i + 1, m, nd, h1, h2, hk => by
    show bindC kindOf ((p, w) :: P.zip vs) m x = _
    unfold bindC
    exact rg (i := i) (List.nodup_cons.mp nd).2 (by simpa using h1) (by simpa using h2) hk
def iP (N : List Str) (vs : List V) : St := vs.map some ++ List.replicate (N.length - vs.length) none
def mF (CX : CXT) (P : Program) (w : World) (K : PySem.W.Frag) (mg : Str → Option Value) (base : Heap) (N : List Str) (qual : Str) (scope : Scope) (f : Addr) (cd : Value) (A : Around) (outer : List Env) (s : Shared) (H : Hp) (E : XK) : Cx where
  prog := P
  w := w
  K := K
  mg := mg
  base := base
  A := A.deeper (envOfC qual scope s.heap.objs.size f cd)
  N := N
  s₀ := s
  H₀ := H
  env := envOfC qual scope s.heap.objs.size f cd
  outer := outer
  stack := envOfC qual scope s.heap.objs.size f cd :: outer
  ex := []
  calm := true
  fn := fun _ => true
  pn := []
  xe := fun e s' => wpAny (model P w) (A.deeper (envOfC qual scope s.heap.objs.size f cd)) (leaving (envOfC qual scope s.heap.objs.size f cd) e) (fun _ s'' => CX outer H s E e s'') (fun e' s'' => CX outer H s E e' s'') s'
theorem uL {sc : Scope} {n : Nat} {x : Str} (h : sc.names.lookup x = some .cell) : ∃ c, (cellsFrom n sc.names []).lookup x = some c := by
  have q := PySem.W.cellsFrom_some sc.names n [] (.inl h)
  exact Option.isSome_iff_exists.mp q
theorem zZ {CX : CXT} {P : Program} {w : World} {K : PySem.W.Frag} {mg : Str → Option Value} {base : Heap} {N ps : List Str} {qual : Str} {scope : Scope} {f : Addr} {cd : Value} {A : Around} {outer : List Env} {s s1 : Shared} {H : Hp} {E : XK} {us : List Value} {vs : List V}
    (S : aX N ps scope) (hd : A.handled = none) (e0 : D6 P w K mg base A outer s H) (hl : vs.length = ps.length) (r : aV vs us)
    (x : InCallC s s.heap.objs.size (bindL (envOfC qual scope s.heap.objs.size f cd).kindOf (ps.zip us) fun _ => none) (cellsFrom (s.heap.objs.size + 1) scope.names []) (bindC (envOfC qual scope s.heap.objs.size f cd).kindOf (ps.zip us) fun _ => none) s1) :
    Inv (mF CX P w K mg base N qual scope f cd A outer s H E) [] (iP N vs) H s1 := by
  have hpl : ps.length ≤ N.length := by have := congrArg List.length S.pre; rw [List.length_take] at this; omega
  obtain ⟨h1, tk, rfl, hk⟩ := x.done
  have noA : ∀ b : Addr, b ∉ (mF CX P w K mg base N qual scope f cd A outer s H E).ex := fun b z => absurd (show b ∈ ([] : List Addr) from z) (by simp)
  refine ⟨⟨e0.mod, S.kind, rfl, rfl, Nat.le_refl _, fun y z c h1 h2 => ?_, fun y hy => ?_, fun y c _ h => ?_, fun _ => hd, Around.frames_deeper e0.frames, .inr ⟨rfl, rfl⟩, fun b z => absurd z (noA b), e0.bs, e0.bsz, fun b _ _ => noA b, fun b z => absurd z (noA b), e0.funs, e0.frf⟩,
    rfl, e0.bare, Un.kept hk, ⟨_, x.toInCall.ns, fun i y v h1 h2 h3 => ?_⟩, fun y c h => ⟨_, x.cell y c h⟩, e0.hok.fresh (Nat.le_refl _), fun y c h => ?_, fun p hp => absurd (show p ∈ ([] : List (Addr × Obj)) from hp) (by simp), e0.hok.kept hk, ?_⟩
  · exact name_of_addr x.apart (PySem.mem_of_lookup h1) (PySem.mem_of_lookup h2)
  · have hy : scope.names.lookup y = some .cell ∨ scope.names.lookup y = some .free := hy
    rcases hy with hy | hy
    · exact uL hy
    · exact absurd rfl (S.nofree _ (PySem.mem_of_lookup hy))
  · exact Nat.le_of_lt (x.above y c (PySem.mem_of_lookup h))
  · have hi : i < vs.length := by
      unfold iP at h2
      by_cases hi : i < vs.length
      · exact hi
      · rw [List.getElem?_append_right (by simpa using hi)] at h2
        rw [List.getElem?_replicate] at h2
        split at h2 <;> cases h2
    have ha : vs[i]? = some v := by
      unfold iP at h2
      rw [List.getElem?_append_left (by simpa using hi), List.getElem?_map] at h2
      cases e : vs[i]? with
      | none => rw [e] at h2; cases h2
      | some a => rw [e] at h2; cases h2; rfl
    obtain ⟨u, hu, rv⟩ := r.get ha
    have hp : ps[i]? = some y := by
      rw [← S.pre, List.getElem?_take_of_lt (by omega)]; exact h1
    have ndP : ps.Nodup := by rw [← S.pre]; exact S.nd.sublist (List.take_sublist _ _)
    refine ⟨u, rv, ?_⟩
    rcases S.par y (List.mem_of_getElem? hp) with k | k
    · exact .inl ⟨k, re ndP hp hu k⟩
    · obtain ⟨c, e⟩ := uL (n := s.heap.objs.size + 1) k
      refine .inr ⟨.inl k, c, e, ?_⟩
      have q := x.cell y c e
      rw [rg ndP hp hu (by show scope.names.lookup y ≠ _; rw [k]; decide)] at q
      exact q
  · exact e0.hok.fresh (Nat.le_of_lt (x.above y c (PySem.mem_of_lookup h)))
  · unfold iP
    show _ = N.length
    rw [List.length_append, List.length_map, List.length_replicate]
    omega
theorem Fy {CX : CXT} {P : Program} {w : World} {K : PySem.W.Frag} {mg : Str → Option Value} {base : Heap} {k : Nat} {f : Addr} {name qual : Str} {params : Arguments} {body : List Stmt} {scope : Scope} {dV kV doc pm cdv ct oc : Value} {an od : Option Addr}
    {osl : Array (Option Value)} {N ps : List Str} {sp : Sp} (lk : K.lookup f = some ⟨oc, od, .func (PySem.W.fnOf name qual params body scope dV kV doc pm an cdv ct), osl⟩) (hcd : PySem.W.codeIn K cdv qual = true) (S : aX N ps scope)
    (len : ∀ vs H Q E, sp vs H Q E → vs.length = ps.length)
    (hbody : ∀ (A : Around) (outer : List Env) (s : Shared) (H : Hp) (vs : List V) (Q : VK) (E : XK), fZ k (A.deeper (envOfC qual scope s.heap.objs.size f cdv)) → sp vs H Q E →
      ∃ t, PSs (mF CX P w K mg base N qual scope f cdv A outer s H E) body t ∧ t { nx := fun _ H' => Q .non H', rt := Q } (iP N vs) H) :
    ce P w K mg base CX (k + 1) f (PySem.W.fnOf name qual params body scope dV kV doc pm an cdv ct) ps sp := by
  refine ⟨len, fun A outer s H args us vs Q E hr e0 hb r hsp => ?_⟩
  have hl := len _ _ _ _ hsp
  have KX : K.In s.heap := e0.mod.kin.keeps fun b o e => (e0.bs b o e).1
  have lim : s.heap.NoLimit := e0.mod.nolimit.keeps fun b o e => (e0.bs b o e).1
  have hkind : ∀ y ∈ ps.zip us, scope.names.lookup y.1 = some .local ∨ (scope.names.lookup y.1 = some .cell ∧ ((cellsFrom (s.heap.objs.size + 1) scope.names []).lookup y.1).isSome = true) := fun ⟨n, v⟩ hy => by
    rcases S.par n (List.of_mem_zip hy).1 with q | q
    · exact .inl q
    · exact .inr ⟨q, PySem.W.cellsFrom_some _ _ _ (.inl q)⟩
  refine codeAny_call_function hr.depth (KX _ _ lk) rfl S.co S.gen rfl (PySem.W.codeRec_of KX hcd) (hb _ _ _ _ ?_)
  refine wpAny_newFunctionEnv_cells S.kind hkind fun env he s1 x => ?_
  subst he
  refine ⟨lim.keeps x.toInCall.keep, codeAny_func ?_⟩
  obtain ⟨t, ht, hq⟩ := hbody A outer s H vs Q E (hr.deeper _) hsp
  have I : Inv (mF CX P w K mg base N qual scope f cdv A outer s H E) [] (iP N vs) H s1 := zZ S hr.hd e0 hl r x
  refine wpAny_mono (ht [] s1 (iP N vs) H _ I hq) (fun fl s' hs => ?_) fun e s' hs => hs
  have fin : ∀ {σ' : St} {H' : Hp} {v : V} {u : Value}, Inv (mF CX P w K mg base N qual scope f cdv A outer s H E) [] σ' H' s' → bB v u → Q v H' → CE outer P w H s Q u s' :=
    fun {σ' H' v u} J rv q => ⟨v, H', J.os, J.bare, J.base, J.hok, rv, q⟩
  cases fl with
  | ret u =>
    obtain ⟨v, σ', H', J, rv, q⟩ := hs
    exact fin J rv q
  | next =>
    obtain ⟨σ', H', J, q⟩ := hs
    exact fin (v := V.non) (u := Value.none) J rfl q
  | brk =>
    obtain ⟨_, _, _, q⟩ := hs
    exact False.elim q
  | cont =>
    obtain ⟨_, _, _, q⟩ := hs
    exact False.elim q
end L2
namespace L2
open PySem PySem.Spec PyProof.Rows
section
variable {X : Cx} {x : Str} {p pos : Pos} {e : Expr} {es : List Expr} {t : TA} {id T : String} {r : List V → Hp → VK → Prop}
def tCB (r : List V → Hp → VK → Prop) (t : TA) : TE := fun σ H Q => t σ H fun vs H1 => r vs H1 Q
theorem gu (hc : eR X (.builtin id) r) (hg : Gl X x) (hm : X.mg x = none) (hv : bootBuiltins x = some (.builtin id)) (ha : PA X (e :: es) t) (hn : x ≠ "__name__" := by decide) (hdb : (x == ("__debug__" : Str)) = false := by decide)
    (he : starEach (e :: es) X.env = (false, eval e X.env) :: starEach es X.env := by rfl) (hpl : (backTo pos (starEach es X.env)).any (·.1) = false := by rfl) : PE X (.Call (.Name x p) (e :: es) [] pos) (tCB r t) := by
  intro pins s σ H Q I h
  refine wpAny_Call_Name_kw (lu I hg hm hv ?_ hn hdb)
  exact PyProof.Rows.callWith_builtin1 (thn (ha pos pins s σ H _ I h) fun us s1 ⟨vs, H1, I1, r1, q1⟩ => hc pins s1 σ H1 vs us Q I1 r1 q1) he hpl
theorem rj (hc : eR X (.type T) r) (hg : Gl X x) (hm : X.mg x = none) (hv : bootBuiltins x = some (.type T)) (ha : PA X (e :: es) t) (hn : x ≠ "__name__" := by decide) (hdb : (x == ("__debug__" : Str)) = false := by decide)
    (he : starEach (e :: es) X.env = (false, eval e X.env) :: starEach es X.env := by rfl) (hpl : (backTo pos (starEach es X.env)).any (·.1) = false := by rfl) : PE X (.Call (.Name x p) (e :: es) [] pos) (tCB r t) := by
  intro pins s σ H Q I h
  refine wpAny_Call_Name_kw (lu I hg hm hv ?_ hn hdb)
  exact PyProof.Rows.callWith_type1 (thn (ha pos pins s σ H _ I h) fun us s1 ⟨vs, H1, I1, r1, q1⟩ => hc pins s1 σ H1 vs us Q I1 r1 q1) he hpl
end
end L2
namespace HT
open PySem PyProof.Rows
def bV : List Int → List Int → Bool
  | [], [] => false
  | [], _ :: _ => true
  | _ :: _, [] => false
  | x :: xs, y :: ys => if x = y then bV xs ys else decide (x < y)
section
open PySem.SeqAt
open PySem.AutoSeq1 (wpAny_loadPart')
open PySem.MeetsSeq PySem.MeetsSeq2 PySem.MeetsSeq3
end
section
variable {prog : Program} {w : World} {A : Around} {E : Value → Shared → Prop} {s : Shared}
theorem cat_tup {t b : Addr} {vs ws : List Value} {Q : Value → Shared → Prop} (ht : IsTup s.heap t vs.toArray) (hb : IsTup s.heap b ws.toArray) (hv : vs ≠ [])
    (h1 : ws = [] → Q (.ref t) s) (h2 : ws ≠ [] → Q (.ref s.heap.objs.size) { s with heap := s.heap.push { cls := .type "tuple", data := .seq (vs ++ ws).toArray } })
    (hsz : vs.length + ws.length ≤ sizeLine) : wpAny (model prog w) A (binaryOp .Add (.ref t) (.ref b)) Q E s := by
  obtain ⟨⟨cls, dd, data, sl⟩, ho, hc, n, hd⟩ := id ht
  obtain ⟨⟨cls2, dd2, data2, sl2⟩, ho2, hc2, n2, hd2⟩ := id hb
  simp only at hc hd hc2 hd2
  subst hc hd hc2 hd2
  have e : vs.toArray ++ ws.toArray = (vs ++ ws).toArray := by simp
  by_cases hw : ws = []
  · exact concat_meets ⟨_, ho, rfl⟩ ⟨_, ho2, rfl⟩ noFill_tuple_add seq_tuple_add PySem.F.slot_tuple_add PySem.F.entry_tuple_add (PySem.F.args_tuple_add_2 _ _)
      (tuple_addW1 t b vs.toArray ws.toArray n n2 dd dd2 sl sl2 (by simpa using hv) (by simp [hw])) ⟨ho, ho2, h1 hw⟩
  · refine concat_meets ⟨_, ho, rfl⟩ ⟨_, ho2, rfl⟩ noFill_tuple_add seq_tuple_add PySem.F.slot_tuple_add PySem.F.entry_tuple_add (PySem.F.args_tuple_add_2 _ _)
      (tuple_addW2 t b vs.toArray ws.toArray n n2 dd dd2 sl sl2 (by simpa using hv) (by simpa using hw) (by rw [List.size_toArray, List.size_toArray]; exact hsz)) ⟨ho, ho2, ?_⟩
    rw [e]
    exact h2 hw
def sIx (n d : Nat) : Option Int → Nat
  | none => d
  | some v => if v < 0 then (v + (n : Int)).toNat else min v.toNat n
theorem Ga (n d : Nat) (hd : d ≤ n) (o : Option Int) : sIx n d o ≤ n := by
  cases o with
  | none => exact hd
  | some v =>
    show (if v < 0 then (v + (n : Int)).toNat else min v.toNat n) ≤ n
    by_cases hv : v < 0
    · rw [if_pos hv]; omega
    · rw [if_neg hv]; exact Nat.min_le_right _ _
theorem y8 (v : Int) (n d : Nat) : (if v < 0 then max (v + (n : Int)) 0 else min v (n : Int)) = ((sIx n d (some v) : Nat) : Int) := by
  show (if v < 0 then max (v + (n : Int)) 0 else min v (n : Int)) = (((if v < 0 then (v + (n : Int)).toNat else min v.toNat n) : Nat) : Int)
  by_cases hv : v < 0
  · simp only [if_pos hv]; omega
  · simp only [if_neg hv]; omega
theorem wI (lo hi : Option Int) (n : Nat) : Builtin.Slice.sliceAdjust lo hi 1 (n : Int) = (((sIx n 0 lo : Nat) : Int), ((sIx n n hi : Nat) : Int)) := by
  have h1 : ¬ ((1 : Int) < 0) := by omega
  unfold Builtin.Slice.sliceAdjust
  simp only [h1, if_false]
  refine Prod.ext ?_ ?_
  · cases lo with
    | none => rfl
    | some v => exact y8 v n 0
  · cases hi with
    | none => rfl
    | some v => exact y8 v n n
theorem wJ (i j : Nat) : Builtin.Slice.slicePlaces (i : Int) (j : Int) 1 = j - i := by
  unfold Builtin.Slice.slicePlaces
  have h1 : (1 : Int) > 0 := by omega
  simp only [h1, if_true, Int.ediv_one]
  split <;> omega
theorem ng {v : Value} {o : Option Int} {Q : Option Int → Shared → Prop} (p : IsPart v o) (h : Q o s) : wpAny (model prog w) A (Builtin.Slice.slicePartIndex v) Q E s := by
  cases p with
  | none => exact slicePart_none h
  | int i t => exact slicePart_int h
theorem lw {sl : Addr} {vl vu : Value} {lo hi : Option Int} {n : Nat} {Q : Int × Int × Nat → Shared → Prop} (hs : s.heap.IsSliceOf sl vl vu .none) (pl : IsPart vl lo) (pu : IsPart vu hi)
    (h : Q (((sIx n 0 lo : Nat) : Int), 1, sIx n n hi - sIx n 0 lo) s) : wpAny (model prog w) A (Builtin.Slice.sliceApplied (.ref sl) (pure (n : Int))) Q E s := by
  obtain ⟨os, hos, hcs, hds⟩ := id hs
  unfold Builtin.Slice.sliceApplied Builtin.Slice.sliceFields
  refine wpAny_bind (wpAny_bind (wpAny_field hos hds (x := vl) rfl (wpAny_bind (wpAny_field hos hds (x := vu) rfl (wpAny_bind (wpAny_field hos hds (x := .none) rfl (wpAny_pure ?_)))))))
  refine wpAny_bind (slicePart_none ?_)
  show wpAny _ _ (if ((1 : Int) == 0) = true then _ else _) _ _ s
  rw [if_neg (by decide)]
  refine wpAny_bind (ng pl (wpAny_bind (ng pu (wpAny_bind (wpAny_pure ?_)))))
  show wpAny _ _ (match Builtin.Slice.sliceAdjust lo hi 1 (n : Int) with | (lo, hi) => pure (lo, (1 : Int), Builtin.Slice.slicePlaces lo hi 1)) _ _ s
  rw [wI lo hi n]
  show wpAny _ _ (pure (((sIx n 0 lo : Nat) : Int), (1 : Int), Builtin.Slice.slicePlaces ((sIx n 0 lo : Nat) : Int) ((sIx n n hi : Nat) : Int) 1)) _ _ s
  rw [wJ]
  exact wpAny_pure h
theorem B0 (xs : Array Value) (i k : Nat) : ((List.range k).filterMap fun (m : Nat) => xs[((i : Int) + (m : Int) * 1).toNat]?).toArray = ((xs.toList.drop i).take k).toArray := by
  have e : (fun (m : Nat) => xs[((i : Int) + (m : Int) * 1).toNat]?) = fun m => xs[i + m]? := by
    funext m
    have : ((i : Int) + (m : Int) * 1).toNat = i + m := by omega
    rw [this]
  rw [e]
  have := pick_run xs i k
  rw [List.filterMap_map] at this
  have e2 : ((fun x => xs[x]?) ∘ fun x => i + x) = fun m => xs[i + m]? := rfl
  rw [e2] at this
  rw [this]
theorem getItem_tuple_cut {t sl : Addr} {items : Array Value} {vl vu : Value} {lo hi : Option Int} {Q : Value → Shared → Prop} (ht : IsTup s.heap t items) (hs : s.heap.IsSliceOf sl vl vu .none) (pl : IsPart vl lo) (pu : IsPart vu hi)
    (hw : ¬ (sIx items.size 0 lo = 0 ∧ sIx items.size items.size hi = items.size))
    (h : Q (.ref s.heap.objs.size) { s with heap := s.heap.push { cls := .type "tuple", data := .seq ((items.toList.drop (sIx items.size 0 lo)).take (sIx items.size items.size hi - sIx items.size 0 lo)).toArray } })
    (hsz : items.size ≤ sizeLine) : wpAny (model prog w) A (getItem (.ref t) (.ref sl)) Q E s := by
  have htake : sizeOk (.seq ((items.toList.drop (sIx items.size 0 lo)).take (sIx items.size items.size hi - sIx items.size 0 lo)).toArray) := by
    show ((items.toList.drop (sIx items.size 0 lo)).take (sIx items.size items.size hi - sIx items.size 0 lo)).toArray.size ≤ sizeLine
    rw [List.size_toArray, List.length_take, List.length_drop, Array.length_toList]
    omega
  have hj : sIx items.size items.size hi ≤ items.size := Ga _ _ (Nat.le_refl _) hi
  obtain ⟨os, hos, hcs, hds⟩ := id hs
  have hTs : s.TypeIs (.ref sl) "slice" := ⟨os, hos, hcs⟩
  unfold getItem
  try with_reducible refine wpAny_holding ?_
  first | refine wpAny_bind (wpAny_pure ?_) | skip
  refine wpAny_bind (wpAny_sequenceKey ht.typeIs (by decide) ?_)
  refine wpAny_bind (wpAny_callSpecial?_slot (name := Str.ofString "__getitem__") ht.typeIs PyProof.Rows.slot_tuple_getitem
    (wpAny_call_entry PyProof.Rows.slot_tuple_getitem ht.typeIs entry_tuple_getitem ?_ (args_tuple_getitem _ _)))
  show wpAny _ _ (Builtin.Tuple.tupleItemsOf (.ref t) >>= _) _ _ s
  refine wpAny_bind (tupleItemsOf_ ht ?_)
  refine wpAny_bind (wpAny_typeOf hTs ?_)
  rw [if_pos (by decide)]
  refine wpAny_bind (lw hs pl pu ?_)
  have hno : ¬ ((((sIx items.size 0 lo : Nat) : Int) == 0 && (1 : Int) == 1 && (sIx items.size items.size hi - sIx items.size 0 lo) == items.size) = true) := by
    intro q
    rw [Bool.and_eq_true, Bool.and_eq_true] at q
    have q1 : ((sIx items.size 0 lo : Nat) : Int) = 0 := eq_of_beq q.1.1
    have q2 : sIx items.size items.size hi - sIx items.size 0 lo = items.size := eq_of_beq q.2
    exact hw ⟨by omega, by omega⟩
  show wpAny _ _ (if (((sIx items.size 0 lo : Nat) : Int) == 0 && (1 : Int) == 1 && (sIx items.size items.size hi - sIx items.size 0 lo) == items.size) = true then _ else _) _ _ s
  rw [if_neg hno, B0]
  first
    | exact wpAny_bind (m := Builtin.Tuple.tupleExact _) (wpAny_newObj_type (wpAny_pure ⟨_, rfl, wpAny_pure h⟩) htake)
    | exact wpAny_bind (m := Builtin.Tuple.tupleExact _) (wpAny_newObj_type (wpAny_bind (wpAny_pure (wpAny_pure ⟨_, rfl, wpAny_pure h⟩))) htake)
    | exact wpAny_bind (wpAny_bind (m := Builtin.Tuple.tupleExact _) (wpAny_newObj_type (wpAny_pure (wpAny_pure ⟨_, rfl, wpAny_pure h⟩)) htake))
    | exact wpAny_bind (wpAny_bind (m := Builtin.Tuple.tupleExact _) (wpAny_newObj_type (wpAny_pure ⟨_, rfl, wpAny_pure h⟩) htake))
end
end HT
namespace L2
open PySem PySem.Spec PyProof.Rows
abbrev TO := St → Hp → (Option Int → Hp → Prop) → Prop
def PO (X : Cx) (e : Option Expr) (t : TO) : Prop :=
  ∀ (pins : List (Addr × Obj)) (s : Shared) (σ : St) (H : Hp) (Q : Option Int → Hp → Prop), Inv X pins σ H s → t σ H Q →
    wpAny (model X.prog X.w) X.A (evalPart e X.env) (fun u s' => ∃ o H', Inv X pins σ H' s' ∧ IsPart u o ∧ Q o H') X.xe s
def D7 : TO := fun _ H Q => Q none H
def Ic (t : TE) : TO := fun σ H Q => t σ H fun x H1 => ∃ i, x = .int i ∧ Q (some i) H1
theorem wK {ns : List Int} : ∀ {us : List Value}, aV (ns.map V.int) us → IntsAre us ns := by
  induction ns with
  | nil => intro us r; rw [List.map_nil] at r; cases r; exact .nil
  | cons n ns ih =>
    intro us r
    rw [List.map_cons] at r
    cases r with
    | cons r1 r2 =>
      obtain ⟨t, e⟩ := r1
      subst e
      exact .cons n t (ih r2)
section
variable {X : Cx} {e : Expr} {te : TE} {lo hi : Option Expr} {tl th : TO} {pos p2 : Pos}
theorem D8 : PO X none D7 := by
  intro pins s σ H Q I h
  rw [evalPart_none]
  exact wpAny_pure ⟨none, H, I, .none, h⟩
theorem D9 (h : PE X e te) : PO X (some e) (Ic te) := by
  intro pins s σ H Q I hw
  rw [evalPart_some]
  refine thn (h pins s σ H _ I hw) fun u s1 ⟨x, H1, I1, r1, q1⟩ => ?_
  obtain ⟨i, rfl, q⟩ := q1
  obtain ⟨t, rfl⟩ := r1
  exact ⟨some i, H1, I1, .int i t, q⟩
def SlR (X : Cx) (r : V → Option Int → Option Int → Hp → VK → Prop) : Prop :=
  ∀ (pins : List (Addr × Obj)) (s : Shared) (σ : St) (H : Hp) (x : V) (v vl vu : Value) (lo hi : Option Int) (sl : Addr) (Q : VK), Inv X pins σ H s → bB x v → s.heap.IsSliceOf sl vl vu .none → IsPart vl lo → IsPart vu hi → r x lo hi H Q →
    ∃ T id, typeLookup (.type T) "__getitem__" = pure (some (.builtin id)) ∧ s.TypeIs v T ∧ wpAny (model X.prog X.w) X.A (getItem v (.ref sl)) (EP X pins σ Q) X.xe s
theorem SlR.or {r r' : V → Option Int → Option Int → Hp → VK → Prop} (h : SlR X r) (h' : SlR X r') : SlR X (fun x lo hi H Q => r x lo hi H Q ∨ r' x lo hi H Q) := by
  intro pins s σ H x v vl vu lo hi sl Q I rx hs pl pu q
  rcases q with q | q
  · exact h pins s σ H x v vl vu lo hi sl Q I rx hs pl pu q
  · exact h' pins s σ H x v vl vu lo hi sl Q I rx hs pl pu q
def tSl (r : V → Option Int → Option Int → Hp → VK → Prop) (te : TE) (tl th : TO) : TE := fun σ H Q => te σ H fun x H1 => tl σ H1 fun l H2 => th σ H2 fun u H3 => r x l u H3 Q
theorem B2 {r : V → Option Int → Option Int → Hp → VK → Prop} (hr : SlR X r) (he : PE X e te) (hl : PO X lo tl) (hu : PO X hi th) : PE X (.Subscript e (.Slice lo hi none p2) pos) (tSl r te tl th) := by
  intro pins s σ H Q I h
  refine Subscript_ (thn (he pins s σ H _ I h) fun v s1 ⟨x, H1, I1, r1, q1⟩ => ?_)
  refine wpAny_Slice (thn (hl pins s1 σ H1 _ I1 q1) fun vl s2 ⟨l, H2, I2, pl, q2⟩ => thn (hu pins s2 σ H2 _ I2 q2) fun vu s3 ⟨u, H3, I3, pu, q3⟩ => ?_)
  rw [evalPart_none]
  refine wpAny_pure ?_
  have I4 : Inv X pins σ H3 { s3 with heap := s3.heap.push { cls := .type "slice", data := .fields #[vl, vu, .none] } } := I3.kept (t' := s3.toks) fun b ob q => Heap.get?_push_of_some _ q
  obtain ⟨T, id, hT, ht, hg⟩ := hr pins { s3 with heap := s3.heap.push { cls := .type "slice", data := .fields #[vl, vu, .none] } } σ H3 x v vl vu l u s3.heap.objs.size Q I4 r1 (Heap.IsSliceOf.new ..) pl pu q3
  show wpAny (model X.prog X.w) X.A (subscriptTail e (.Slice lo hi none p2) v (.ref s3.heap.objs.size)) (EP X pins σ Q) X.xe { s3 with heap := s3.heap.push { cls := .type "slice", data := .fields #[vl, vu, .none] } }
  exact tail_any (ops := [.ref s3.heap.objs.size, v]) ht hT hg (by with_unfolding_all rfl)
def nh (xs : List V) (lo hi : Option Int) : List V := (xs.drop (HT.sIx xs.length 0 lo)).take (HT.sIx xs.length xs.length hi - HT.sIx xs.length 0 lo)
theorem ma (xs : List V) (lo hi : Option Int) : (nh xs lo hi).length ≤ xs.length := by
  unfold nh
  rw [List.length_take, List.length_drop]
  omega
def Jk (K : PySem.W.Frag) : V → Option Int → Option Int → Hp → VK → Prop := fun x lo hi H Q => ∃ a xs, x = .ref a ∧ SqT K H a xs ∧
  ¬ (HT.sIx xs.length 0 lo = 0 ∧ HT.sIx xs.length xs.length hi = xs.length) ∧ ∀ p, H p = none → Q (.ref p) (upd H p (.tup (nh xs lo hi)))
theorem Gb : SlR X (Jk X.K) := by
  intro pins s σ H x v vl vu lo hi sl Q I rx hs pl pu h
  obtain ⟨a, xs, rfl, hx, hw, q⟩ := h
  cases rx
  obtain ⟨its, r, ht, hz⟩ := I.tuple hx
  have hlen : its.toArray.size = xs.length := by rw [List.size_toArray]; exact r.length.symm
  refine ⟨"tuple", _, PyProof.Rows.slot_tuple_getitem.lookup, ht.typeIs, ?_⟩
  refine HT.getItem_tuple_cut ht hs pl pu (by rw [hlen]; exact hw) ?_ (by rw [hlen]; exact hz)
  rw [hlen]
  refine ⟨.ref s.heap.objs.size, _, I.laid (t' := s.toks) (o := .tup (nh xs lo hi)) (fun b ob q => Heap.get?_push_of_some _ q) (Nat.le_refl _) ?_, rfl, q _ (I.hok.fresh (Nat.le_refl _))⟩
  exact ⟨Nat.le_trans (ma xs lo hi) hz, _, (r.drop (HT.sIx xs.length 0 lo)).take (HT.sIx xs.length xs.length hi - HT.sIx xs.length 0 lo), IsTup.new _ _⟩
def uM (K : PySem.W.Frag) : R2 := fun x y H Q => ∃ a b xs ys, x = .ref a ∧ y = .ref b ∧ SqT K H a xs ∧ SqT K H b ys ∧ xs ≠ [] ∧ xs.length + ys.length ≤ sizeLine ∧
  (ys = [] → Q (.ref a) H) ∧ (ys ≠ [] → ∀ p, H p = none → Q (.ref p) (upd H p (.tup (xs ++ ys))))
theorem aV.nil_iff {xs : List V} {us : List Value} (r : aV xs us) : us = [] ↔ xs = [] := by
  cases r with
  | nil => simp
  | cons _ _ => simp
theorem y9 : OpR X (binaryOp .Add) (uM X.K) := by
  intro pins s σ H x y v u Q I rx ry h
  obtain ⟨a, b, xs, ys, rfl, rfl, ha, hb, hx, hz, q1, q2⟩ := h
  cases rx
  cases ry
  obtain ⟨its, r1, p1, _⟩ := I.tuple ha
  obtain ⟨its2, r2, p2, _⟩ := I.tuple hb
  refine HT.cat_tup p1 p2 (fun z => hx (r1.nil_iff.mp z)) (fun z => ⟨.ref a, H, I, rfl, q1 (r2.nil_iff.mp z)⟩) (fun z => ?_) (by rw [← r1.length, ← r2.length]; exact hz)
  refine ⟨.ref s.heap.objs.size, _, I.laid (t' := s.toks) (o := .tup (xs ++ ys)) (fun b ob q => Heap.get?_push_of_some _ q) (Nat.le_refl _) ?_, rfl, q2 (fun w => z (r2.nil_iff.mpr w)) _ (I.hok.fresh (Nat.le_refl _))⟩
  exact ⟨by rw [List.length_append]; exact hz, _, r1.append r2, IsTup.new _ _⟩
end
end L2
namespace L2
open PySem PySem.Spec PyProof.Rows
def ixN (n : Nat) (i : Int) : Option Nat := if 0 ≤ i then (if i < n then some i.toNat else none) else if -(n : Int) ≤ i then some (i + n).toNat else none
def atI {α : Type} (xs : List α) (i : Int) : Option α := (ixN xs.length i).bind fun j => xs[j]?
theorem za {n : Nat} {i : Int} {j : Nat} (h : ixN n i = some j) : seqIndex? i n = some j ∧ j < n ∧ -(n : Int) ≤ i ∧ i < n := by
  unfold ixN at h
  by_cases h0 : 0 ≤ i
  · rw [if_pos h0] at h
    by_cases h1 : i < n
    · rw [if_pos h1] at h
      have e : i.toNat = j := Option.some.inj h
      exact ⟨by rw [seqIndex_of h0 h1, e], by omega, by omega, h1⟩
    · rw [if_neg h1] at h; cases h
  · rw [if_neg h0] at h
    by_cases h1 : -(n : Int) ≤ i
    · rw [if_pos h1] at h
      have e : (i + n).toNat = j := Option.some.inj h
      exact ⟨by rw [seqIndex_neg (by omega) h1, e], by omega, h1, by omega⟩
    · rw [if_neg h1] at h; cases h
theorem sN {α : Type} {xs : List α} {i : Int} {v : α} (h : atI xs i = some v) : ∃ j, seqIndex? i xs.length = some j ∧ xs[j]? = some v ∧ j < xs.length ∧ -(xs.length : Int) ≤ i ∧ i < xs.length := by
  unfold atI at h
  cases e : ixN xs.length i with
  | none => rw [e] at h; cases h
  | some j =>
    rw [e] at h
    obtain ⟨h1, h2, h3, h4⟩ := za e
    exact ⟨j, h1, h, h2, h3, h4⟩
theorem cI {α : Type} {xs : List α} {j : Nat} {v : α} (h : xs[j]? = some v) : atI xs (j : Int) = some v := by
  have hj : j < xs.length := (List.getElem?_eq_some_iff.mp h).1
  have e : ixN xs.length (j : Int) = some j := by
    unfold ixN
    rw [if_pos (by omega), if_pos (by omega)]; simp
  unfold atI; rw [e]; exact h
def sO (b : Expr) : Prop := ∀ o i, subscripted b false o i = operate [o, i] (getItem o i)
def IxR (X : Cx) (r : R2) : Prop :=
  ∀ (value slice : Expr) (pins : List (Addr × Obj)) (s : Shared) (σ : St) (H : Hp) (x y : V) (v u : Value) (Q : VK), Inv X pins σ H s → bB x v → bB y u → r x y H Q →
    subscripted slice false v u = operate [v, u] (getItem v u) → wpAny (model X.prog X.w) X.A (subscriptTail value slice v u) (EP X pins σ Q) X.xe s
def MtR (X : Cx) (id : String) (r : V → List V → Hp → VK → Prop) : Prop :=
  ∀ (pins : List (Addr × Obj)) (s : Shared) (σ : St) (H : Hp) (x : V) (xs : List V) (v : Value) (us : List Value) (Q : VK), Inv X pins σ H s → bB x v → aV xs us → r x xs H Q →
    wpAny (model X.prog X.w) X.A (call (.builtin id) (v :: us)) (EP X pins σ Q) X.xe s
section
variable {X : Cx} {a b : Expr} {ta tb : TE} {pos : Pos}
theorem IxR.or {r r' : R2} (h : IxR X r) (h' : IxR X r') : IxR X (fun x y H Q => r x y H Q ∨ r' x y H Q) := by
  intro value slice pins s σ H x y v u Q I rx ry q hs
  rcases q with q | q
  · exact h value slice pins s σ H x y v u Q I rx ry q hs
  · exact h' value slice pins s σ H x y v u Q I rx ry q hs
theorem Fz {r : R2} (hr : IxR X r) (ha : PE X a ta) (hb : PE X b tb) (hs : sO b) : PE X (.Subscript a b pos) (tOp r ta tb) := by
  intro pins s σ H Q I h
  exact Subscript_ (F4 ha hb I h fun v u s2 x y H2 I2 rx ry q => hr a b pins s2 σ H2 x y v u Q I2 rx ry q (hs _ _))
def Id (K : PySem.W.Frag) : R2 := fun x y H Q => ∃ p xs i v, x = .ref p ∧ y = .int i ∧ SqL K H p xs ∧ atI xs i = some v ∧ Q v H
def Ie (K : PySem.W.Frag) : R2 := fun x y H Q => ∃ p xs i v, x = .ref p ∧ y = .int i ∧ SqT K H p xs ∧ atI xs i = some v ∧ Q v H
def Ig : R2 := fun x y H Q => ∃ z i c, x = .str z ∧ y = .int i ∧ z.length ≤ sizeLine ∧ atI z.cps.toList i = some c ∧ Q (.str ⟨#[c]⟩) H
theorem zc : IxR X (Id X.K) := by
  intro value slice pins s σ H x y v u Q I rx ry h hs
  obtain ⟨p, xs, i, z, rfl, rfl, hq, he, q⟩ := h
  cases rx
  obtain ⟨t, rfl⟩ := ry
  obtain ⟨its, r, pl, hz⟩ := I.list hq
  obtain ⟨j, h1, h2, h3, h4, h5⟩ := sN he
  obtain ⟨w, ew, rw'⟩ := r.get h2
  have hl := r.length
  have hn := m8
  have fin : EP X pins σ Q w s := ⟨z, H, I, rw', q⟩
  by_cases h0 : 0 ≤ i
  · have hj : i.toNat = j := by
      rw [seqIndex_of h0 h5] at h1
      exact Option.some.inj h1
    exact item_listR pl.isList h0 (by omega) (by rw [hj]; simpa using ew) fin hs
  · have hj : (i + (its.toArray.size : Int)).toNat = j := by
      rw [seqIndex_neg (by omega) h4] at h1
      rw [List.size_toArray, ← hl]
      exact Option.some.inj h1
    exact subscriptTail_builtinR (x := w) pl.isList.typeIs slot_list_getitem.lookup
      (wpAny_getItem_list_neg (Q := fun r s' => r = w ∧ EP X pins σ Q r s') pl.isList (by omega) (by rw [List.size_toArray] <;> omega) (by omega) (by rw [hj]; simpa using ew) ⟨rfl, fin⟩) hs
theorem Gc : IxR X (Ie X.K) := by
  intro value slice pins s σ H x y v u Q I rx ry h hs
  obtain ⟨p, xs, i, z, rfl, rfl, hq, he, q⟩ := h
  cases rx
  obtain ⟨t, rfl⟩ := ry
  obtain ⟨its, r, pl, hz⟩ := I.tuple hq
  obtain ⟨j, h1, h2, h3, h4, h5⟩ := sN he
  obtain ⟨w, ew, rw'⟩ := r.get h2
  have hl := r.length
  have hn := m8
  have fin : EP X pins σ Q w s := ⟨z, H, I, rw', q⟩
  exact subscriptTail_builtinR (x := w) pl.typeIs slot_tuple_getitem.lookup
    (getItem_tuple (j := j) (Q := fun r s' => r = w ∧ EP X pins σ Q r s') pl (by omega) (by omega) (by rw [List.size_toArray, ← hl]; exact h1) (by simpa using ew) ⟨rfl, fin⟩) hs
theorem Ge : IxR X Ig := by
  intro value slice pins s σ H x y v u Q I rx ry h hs
  obtain ⟨z, i, c, rfl, rfl, hz, he, q⟩ := h
  obtain ⟨t, rfl⟩ := rx
  obtain ⟨t', rfl⟩ := ry
  obtain ⟨j, h1, h2, h3, h4, h5⟩ := sN he
  have hl : z.cps.toList.length = z.length := by simp [Str.length]
  rw [hl] at h1 h4 h5
  have hn := m8
  exact tail_any (typeIs_str s z t) slot_str_getitem.lookup (getItem_str (c := c) (by
    have e1 : decide (i < -(2 ^ 63 : Int)) = false := decide_eq_false (by omega)
    have e2 : decide (i ≥ 2 ^ 63) = false := decide_eq_false (by omega)
    rw [e1, e2, Bool.or_false]) (by rw [h1]; simpa using h2) ⟨.str ⟨#[c]⟩, H, I.tok _, ⟨_, rfl⟩, q⟩) hs
def rIx (K : PySem.W.Frag) : R2 := fun x y H Q => Id K x y H Q ∨ Ie K x y H Q ∨ Ig x y H Q
theorem Gf : IxR X (rIx X.K) := zc.or (Gc.or Ge)
theorem wL (its : List Value) (n j : Nat) (u : Value) : Obj.mapSeq (·.setIfInBounds j u) { cls := .type "list", data := .seq its.toArray n } = { cls := .type "list", data := .seq (its.set j u).toArray n } := by
  simp [Obj.mapSeq]
theorem Inv.lst {pins : List (Addr × Obj)} {σ : St} {H : Hp} {s : Shared} {p : Addr} {xs : List V} (I : Inv X pins σ H s) (h : H p = some (.lst xs)) :
    ∃ (its : List Value) (n : Nat), aV xs its ∧ s.heap.get? p = some { cls := .type "list", data := .seq its.toArray n } ∧ xs.length ≤ sizeLine := by
  obtain ⟨z, its, n, r, e⟩ := I.hok p _ h
  exact ⟨its, n, r, e, z⟩
theorem Inv.lstUpd {pins : List (Addr × Obj)} {σ : St} {H : Hp} {s : Shared} {p : Addr} {xs ys : List V} {its its' : List Value} {n n' : Nat} {f : Obj → Obj} (I : Inv X pins σ H s) (h : H p = some (.lst xs))
    (ho : s.heap.get? p = some { cls := .type "list", data := .seq its.toArray n }) (hf : f { cls := .type "list", data := .seq its.toArray n } = { cls := .type "list", data := .seq its'.toArray n' }) (r : aV ys its') (hz : ys.length ≤ sizeLine) (t : Nat) :
    Inv X pins σ (upd H p (.lst ys)) { s with heap := s.heap.update p f, toks := t } := by
  have e : (s.heap.update p f).get? p = some { cls := .type "list", data := .seq its'.toArray n' } := by
    rw [Heap.get?_update_self f ho (by rw [hf] <;> rfl), hf]
  refine I.write (x := p) (e := p) (by rw [h]; trivial) (.inl rfl) (fun b u hb q => (Heap.get?_update_other _ _ (Ne.symm hb)).trans q) ⟨_, e⟩ ?_
  exact ⟨hz, its', n', r, e⟩
def Ih : V → V → V → Hp → (Hp → Prop) → Prop := fun o i v H Q => ∃ p xs k j, o = .ref p ∧ i = .int k ∧ H p = some (.lst xs) ∧ ixN xs.length k = some j ∧ Q (upd H p (.lst (xs.set j v)))
theorem B3 : FY X Ih := by
  intro pins s σ H o i v ov iv u Q I ro ri rv h
  obtain ⟨p, xs, k, j, rfl, rfl, hp, hj, q⟩ := h
  cases ro
  obtain ⟨t, rfl⟩ := ri
  obtain ⟨its, n, r, ho, hz⟩ := I.lst hp
  obtain ⟨h1, h2, h3, h4⟩ := za hj
  have hl := r.length
  have hn := m8
  have I' : Inv X pins σ (upd H p (.lst (xs.set j v))) { s with heap := s.heap.update p (Obj.mapSeq (·.setIfInBounds j u)) } :=
    I.lstUpd hp ho (wL its n j u) (r.set rv j) (by rw [List.length_set]; exact hz) s.toks
  by_cases h0 : 0 ≤ k
  · have hk : k.toNat = j := by
      rw [seqIndex_of h0 h4] at h1
      exact Option.some.inj h1
    exact PySem.W.ki_setAt ho h0 (by omega) (by rw [List.size_toArray, ← hl]; exact h4) (by rw [hk]; exact ⟨_, I', q⟩)
  · have hk : (k + (its.toArray.size : Int)).toNat = j := by
      rw [seqIndex_neg (by omega) h3] at h1
      rw [List.size_toArray, ← hl]
      exact Option.some.inj h1
    exact PySem.W.ki_setBack ho (by omega) (by rw [List.size_toArray, ← hl]; exact h3) (by omega) (by rw [hk]; exact ⟨_, I', q⟩)
theorem sP (lo hi : Option Int) (n : Nat) : (sliceBounds lo hi none n).1 = ((HT.sIx n 0 lo : Nat) : Int) ∧ (sliceBounds lo hi none n).2.1 = ((HT.sIx n n hi : Nat) : Int) ∧ (sliceBounds lo hi none n).2.2 = 1 := by
  refine ⟨?_, ?_, rfl⟩
  · cases lo with
    | none => simp [sliceBounds, HT.sIx]
    | some i =>
      simp only [sliceBounds, HT.sIx, Option.getD_none, show (1 : Int) > 0 by decide, if_true]
      by_cases h : i < 0
      · simp only [h, if_true] <;> omega
      · simp only [h, if_false] <;> omega
  · cases hi with
    | none => simp [sliceBounds, HT.sIx]
    | some i =>
      simp only [sliceBounds, HT.sIx, Option.getD_none, show (1 : Int) > 0 by decide, if_true]
      by_cases h : i < 0
      · simp only [h, if_true] <;> omega
      · simp only [h, if_false] <;> omega
theorem ph (its : List Value) (lo hi : Option Int) : slicePick its.toArray lo hi none = ((its.drop (HT.sIx its.length 0 lo)).take (HT.sIx its.length its.length hi - HT.sIx its.length 0 lo)).toArray := by
  obtain ⟨h1, h2, h3⟩ := sP lo hi its.toArray.size
  unfold slicePick
  rw [h1, h2, h3]
  simp only [sliceRange_one, pick_run, List.size_toArray] <;> rfl
def Ii (K : PySem.W.Frag) : V → Option Int → Option Int → Hp → VK → Prop := fun x lo hi H Q => ∃ a xs, x = .ref a ∧ SqL K H a xs ∧ ∀ p, H p = none → Q (.ref p) (upd H p (.lst (nh xs lo hi)))
theorem Ea : SlR X (Ii X.K) := by
  intro pins s σ H x v vl vu lo hi sl Q I rx hs pl pu h
  obtain ⟨a, xs, rfl, hx, q⟩ := h
  cases rx
  obtain ⟨its, r, ht, hz⟩ := I.list hx
  have hlen := r.length
  refine ⟨"list", _, slot_list_getitem.lookup, ht.isList.typeIs, ?_⟩
  refine wpAny_getItem_list_slice ht.isList hs pl pu .none (by simp) ?_ (by rw [List.size_toArray] <;> omega)
  rw [ph, ← hlen]
  refine ⟨.ref s.heap.objs.size, _, I.laid (t' := s.toks) (o := .lst (nh xs lo hi)) (fun b ob q => Heap.get?_push_of_some _ q) (Nat.le_refl _) ?_, rfl, q _ (I.hok.fresh (Nat.le_refl _))⟩
  exact ⟨Nat.le_trans (ma xs lo hi) hz, _, 0, (r.drop (HT.sIx xs.length 0 lo)).take (HT.sIx xs.length xs.length hi - HT.sIx xs.length 0 lo), Heap.get?_push_size _ rfl⟩
theorem sQ : eR X (.builtin "len") (fun xs H Q => ∃ p ys, xs = [.ref p] ∧ (SqL X.K H p ys ∨ SqT X.K H p ys) ∧ Q (.int ys.length) H) := by
  intro pins s σ H xs us Q I r h
  obtain ⟨p, ys, rfl, hq, q⟩ := h
  obtain ⟨u, rfl, rx⟩ := qY r
  cases rx
  have hn := m8
  rcases hq with hq | hq
  · obtain ⟨its, r', pl, hz⟩ := I.list hq
    have hlen := r'.length
    exact Calls.call_len_list pl.isList (by simp only [List.size_toArray] <;> omega) ⟨.int ys.length, H, I.tok _, ⟨s.toks + 1, by rw [List.size_toArray, hlen]⟩, q⟩
  · obtain ⟨its, r', pl, hz⟩ := I.tuple hq
    have hlen := r'.length
    exact len_tuple pl (by simp only [List.size_toArray] <;> omega) ⟨.int ys.length, H, I.tok _, ⟨s.toks + 1, by rw [List.size_toArray, hlen]⟩, q⟩
theorem sR : eR X (.type "list") (fun xs H Q => ∃ p ys, xs = [.ref p] ∧ (SqL X.K H p ys ∨ SqT X.K H p ys) ∧ ∀ l, H l = none → Q (.ref l) (upd H l (.lst ys))) := by
  intro pins s σ H xs us Q I r h
  obtain ⟨p, ys, rfl, hq, q⟩ := h
  obtain ⟨u, rfl, rx⟩ := qY r
  cases rx
  have fin : ∀ (its : List Value), aV ys its → ys.length ≤ sizeLine → ∀ (h' : Heap) (c' : Nat), (∀ b o', s.heap.get? b = some o' → h'.get? b = some o') →
      h'.get? s.heap.objs.size = some { cls := .type "list", dict := none, data := .seq its.toArray c', slots := #[] } → EP X pins σ Q (.ref s.heap.objs.size) { s with heap := h' } := fun its r' hz h' c' kp e =>
    ⟨.ref s.heap.objs.size, _, I.laid (t' := s.toks) kp (Nat.le_refl _) (show c7 X.prog X.w _ h' _ (.lst ys) from ⟨hz, its, c', r', e⟩), rfl, q _ (I.hok.fresh (Nat.le_refl _))⟩
  rcases hq with hq | hq
  · obtain ⟨its, r', pl, hz⟩ := I.list hq
    have hlen := r'.length
    obtain ⟨o, ho, hc, n, hd⟩ := pl.isList
    exact call_list_seq p (.inl rfl) ho hc hd (fun h' c' kp e => fin its r' hz h' c' kp e) (by simp only [List.size_toArray] <;> omega)
  · obtain ⟨its, r', pl, hz⟩ := I.tuple hq
    have hlen := r'.length
    obtain ⟨o, ho, hc, n, hd⟩ := pl
    exact call_list_seq p (.inr rfl) ho hc hd (fun h' c' kp e => fin its r' hz h' c' kp e) (by simp only [List.size_toArray] <;> omega)
theorem pi : eR X (.type "tuple") (fun xs H Q => ∃ p ys, xs = [.ref p] ∧ ((SqL X.K H p ys ∧ ∀ l, H l = none → Q (.ref l) (upd H l (.tup ys))) ∨ (SqT X.K H p ys ∧ Q (.ref p) H))) := by
  intro pins s σ H xs us Q I r h
  obtain ⟨p, ys, rfl, h⟩ := h
  obtain ⟨u, rfl, rx⟩ := qY r
  cases rx
  rcases h with ⟨hq, q⟩ | ⟨hq, q⟩
  · obtain ⟨its, r', pl, hz⟩ := I.list hq
    have hlen := r'.length
    refine call_tuple_list pl.isList (fun h' kp => ?_) (by simp only [List.size_toArray] <;> omega)
    have I1 : Inv X pins σ H { s with heap := h' } := I.kept (t' := s.toks) kp
    have I2 : Inv X pins σ (upd H h'.objs.size (.tup ys)) { s with heap := h'.push { cls := .type "tuple", data := .seq its.toArray } } :=
      I1.laid (t' := s.toks) (fun b o e => Heap.get?_push_of_some _ e) (Nat.le_refl _) (show c7 X.prog X.w _ _ _ (.tup ys) from ⟨hz, its, r', IsTup.new _ _⟩)
    exact ⟨.ref h'.objs.size, _, I2, rfl, q _ (I1.hok.fresh (Nat.le_refl _))⟩
  · obtain ⟨its, r', pl, hz⟩ := I.tuple hq
    exact call_tuple_same pl ⟨.ref p, H, I, rfl, q⟩
def tyV (K : PySem.W.Frag) (T : String) (x : V) (H : Hp) : Prop := match x with
  | .str _ => T = "str"
  | .int _ => T = "int"
  | .ref p => (T = "list" ∧ ∃ xs, SqL K H p xs) ∨ (T = "tuple" ∧ ∃ o, K.lookup p = some o ∧ o.cls = .type "tuple" ∧ o.dict = none) ∨
      (T = "dict" ∧ ((∃ kvs, H p = some (.dK kvs)) ∨ ∃ kvs, H p = some (.dT kvs))) ∨ (T = "set" ∧ ∃ S n, H p = some (.set S n))
  | _ => False
theorem Gg {pins : List (Addr × Obj)} {σ : St} {H : Hp} {s : Shared} {T : String} {x : V} {v : Value} (I : Inv X pins σ H s) (r : bB x v) (ty : tyV X.K T x H) :
    s.TypeIs v T ∧ ∀ a, v = .ref a → ∃ ob, s.heap.get? a = some ob ∧ ob.dict = none := by
  cases x with
  | str z =>
    obtain ⟨t, rfl⟩ := r
    cases (show T = "str" from ty)
    exact ⟨typeIs_str s z t, fun _ e => nomatch e⟩
  | int i =>
    obtain ⟨t, rfl⟩ := r
    cases (show T = "int" from ty)
    exact ⟨typeIs_int s i t, fun _ e => nomatch e⟩
  | ref p =>
    cases r
    rcases ty with ⟨rfl, xs, hq⟩ | ⟨rfl, o, hk, hc, hd⟩ | ⟨rfl, hk⟩ | ⟨rfl, S, n, hk⟩
    · obtain ⟨its, _, pl, _⟩ := I.list hq
      refine ⟨pl.isList.typeIs, fun a e => ?_⟩
      cases e
      obtain ⟨o, n, e, c, hd, _⟩ := pl
      exact ⟨o, e, hd⟩
    · refine ⟨⟨o, I.kIn p o hk, hc⟩, fun a e => ?_⟩
      cases e
      exact ⟨o, I.kIn _ o hk, hd⟩
    · have z : ∃ o, s.heap.get? p = some o ∧ o.ExactDict := by
        rcases hk with ⟨kvs, hk⟩ | ⟨kvs, hk⟩
        · obtain ⟨_, _, _, _, o, _, _, e, ex, _⟩ := I.hok p _ hk
          exact ⟨o, e, ex⟩
        · obtain ⟨_, _, _, _, o, _, _, e, ex, _⟩ := I.hok p _ hk
          exact ⟨o, e, ex⟩
      obtain ⟨o, e, ex⟩ := z
      refine ⟨⟨o, e, ex.1⟩, fun a e2 => ?_⟩
      cases e2
      exact ⟨o, e, ex.2.1⟩
    · obtain ⟨o, _, _, _, e, ex, _⟩ := I.hok p _ hk
      refine ⟨⟨o, e, ex.1⟩, fun a e2 => ?_⟩
      cases e2
      exact ⟨o, e, ex.2.1⟩
  | _ => exact False.elim ty
def tBM (K : PySem.W.Frag) (T : String) (r : V → List V → Hp → VK → Prop) (to : TE) (t : TA) : TE := fun σ H Q => to σ H fun x H1 => tyV K T x H1 ∧ t σ H1 fun xs H2 => r x xs H2 Q
variable {o e : Expr} {es : List Expr} {to : TE} {t : TA} {name : Str} {apos cpos : Pos} {T id : String} {r : V → List V → Hp → VK → Prop}
theorem B4 (pa : PlainAttrs T) (slot : Slot T name id) (hty : typeOf (.builtin id) = pure (.type "method_descriptor")) (hm : MtR X id r) (ho : PE X o to) (ha : PA X (e :: es) t)
    (hbase : attributeBase o name X.env (eval o X.env) = eval o X.env := by rfl)
    (hfew : ((backTo cpos (starEach (e :: es) X.env)).all (fun x => !x.1) && (backToKw cpos (keywordEach [] X.env)).all (fun x => x.1.isSome)
      && decide ((e :: es).length + ([] : List Keyword).length + (if ([] : List Keyword).isEmpty then 0 else 1) < 30)) = true := by rfl)
    (hline : (apos.endLine == cpos.line) = true := by rfl) (hs : starEach (e :: es) X.env = (false, eval e X.env) :: starEach es X.env := by rfl) (hplain : (backTo cpos (starEach es X.env)).any (·.1) = false := by rfl) :
    PE X (.Call (.Attribute o name apos) (e :: es) [] cpos) (tBM X.K T r to t) := by
  intro pins s σ H Q I h
  refine wpAny_Call_method_late hbase hfew hline rfl (thn (ho pins s σ H _ I h) fun v s1 ⟨x, H1, I1, r1, ty, q1⟩ => ?_)
  obtain ⟨h1, h2⟩ := Gg I1 r1 ty
  refine ⟨T, id, pa, slot, hty, h1, h2, ?_⟩
  have hA := ha cpos pins s1 σ H1 _ I1 q1
  rw [hs] at hA ⊢
  refine Calls.callWith_builtin (by show (false || (backTo cpos (starEach es X.env)).any (·.1)) = false; rw [hplain] <;> rfl) (Calls.evalArgs_plain ?_)
  exact thn hA fun us s2 ⟨vs, H2, I2, r2, q2⟩ => hm pins s2 σ H2 x vs v us Q I2 r1 r2 q2
end
end L2
namespace L2
open PySem PySem.Spec PyProof.Rows
def MtM (X : Cx) (id : String) (r : V → List V → Hp → VK → Prop) : Prop :=
  ∀ (pins : List (Addr × Obj)) (s : Shared) (σ : St) (H : Hp) (x : V) (xs : List V) (v : Value) (us : List Value) (Q : VK), Inv X pins σ H s → bB x v → aV xs us → r x xs H Q →
    wpAny (model X.prog X.w) X.A (call (.builtin id) (v :: us)) (EP X pins σ Q) X.xe s
theorem aV.one : ∀ {x : V} {us : List Value}, aV [x] us → ∃ u, us = [u] ∧ bB x u
  | _, _, .cons r .nil => ⟨_, rfl, r⟩
theorem aV.two : ∀ {x y : V} {us : List Value}, aV [x, y] us → ∃ u v, us = [u, v] ∧ bB x u ∧ bB y v
  | _, _, _, .cons r (.cons q .nil) => ⟨_, _, rfl, r, q⟩
theorem aV.rep {xs : List V} {us : List Value} (h : aV xs us) : ∀ k : Nat, aV (List.replicate k xs).flatten (List.replicate k us).flatten
  | 0 => .nil
  | k + 1 => by
    rw [List.replicate_succ, List.replicate_succ, List.flatten_cons, List.flatten_cons]
    exact aV.append h (aV.rep h k)
theorem rk (its : List Value) : ∀ (k : Nat) (acc : List Value),
    List.foldl (fun x1 x2 => x1 ++ x2) acc.toArray (List.replicate k its.toArray) = (acc ++ (List.replicate k its).flatten).toArray
  | 0, acc => by simp
  | k + 1, acc => by
    have e : acc.toArray ++ its.toArray = (acc ++ its).toArray := by simp
    have e2 : (acc ++ its) ++ (List.replicate k its).flatten = acc ++ (List.replicate (k + 1) its).flatten := by
      rw [List.replicate_succ, List.flatten_cons, List.append_assoc]
    rw [← e2, ← rk its k (acc ++ its), ← e, List.replicate_succ, List.foldl_cons]
section
variable {X : Cx} {pins : List (Addr × Obj)} {σ : St} {H : Hp} {s : Shared} {l b : Addr} {xs ys zs : List V}
theorem Inv.lset {its its' : List Value} {n : Nat} {f : Array Value → Array Value} {t' : Nat} (I : Inv X pins σ H s) (hH : H l = some (.lst xs))
    (e : s.heap.get? l = some { cls := .type "list", data := .seq its.toArray n }) (hf : f its.toArray = its'.toArray) (hv : aV ys its') (hz : ys.length ≤ sizeLine) :
    Inv X pins σ (upd H l (.lst ys)) { s with heap := s.heap.update l (Obj.mapSeq f), toks := t' } := by
  have q := PySem.IsL.update e f
  rw [hf] at q
  refine I.write (x := l) (e := l) (by rw [hH]; exact trivial) (.inl rfl) (fun b' u hb hu => (Heap.get?_update_other s.heap (Obj.mapSeq f) (Ne.symm hb)).trans hu) ⟨_, q⟩ ?_
  exact ⟨hz, its', _, hv, q⟩
theorem Inv.lnew {its : List Value} {t' : Nat} (I : Inv X pins σ H s) (hv : aV ys its) (hz : ys.length ≤ sizeLine) :
    Inv X pins σ (upd H s.heap.objs.size (.lst ys)) { s with heap := s.heap.push { cls := .type "list", data := .seq its.toArray }, toks := t' } :=
  I.laid (fun _ _ q => Heap.get?_push_of_some _ q) (Nat.le_refl _) ⟨hz, its, 0, hv, Heap.get?_push_size _ rfl⟩
theorem Inv.fresh (I : Inv X pins σ H s) : H s.heap.objs.size = none := I.hok.fresh (Nat.le_refl _)
theorem Inv.lstM (I : Inv X pins σ H s) (hH : H l = some (.lst xs)) : xs.length ≤ sizeLine ∧ ∃ (its : List Value) (n : Nat), aV xs its ∧ xs.length = its.length ∧ s.heap.get? l = some { cls := .type "list", data := .seq its.toArray n } := by
  obtain ⟨z, its, n, r, e⟩ := I.hok l _ hH
  exact ⟨z, its, n, r, r.length, e⟩
theorem B5 {n : Nat} (h : n ≤ sizeLine) : Builtin.List.listTooLong n = false := by
  unfold Builtin.List.listTooLong
  exact decide_eq_false (by omega)
end
section
variable {X : Cx}
def Eb : V → List V → Hp → VK → Prop := fun x vs H Q => ∃ l xs y, x = .ref l ∧ vs = [y] ∧ H l = some (.lst xs) ∧ xs.length < sizeLine ∧ Q .non (upd H l (.lst (xs ++ [y])))
theorem rl : MtM X "list.append" Eb := by
  intro pins s σ H x vs v us Q I rx rv h
  obtain ⟨l, xs, y, rfl, rfl, hH, hz, q⟩ := h
  cases rx
  obtain ⟨u, rfl, ru⟩ := rv.one
  obtain ⟨z, its, n, r, hl, e⟩ := I.lstM hH
  refine call_meets F.slot_list_append ⟨_, e, rfl⟩ F.entry_list_append (F.args_list_append_2 _ _) (PySem.list_append l its.toArray n u (by rw [List.size_toArray]; omega)) ⟨e, ?_⟩
  refine ⟨.non, _, I.lset (its' := its ++ [u]) hH e (by simp) (r.append (.cons ru .nil)) ?_, rfl, q⟩
  rw [List.length_append, List.length_singleton]
  omega
def Jl : R2 := fun x y H Q => ∃ l b xs zs, x = .ref l ∧ y = .ref b ∧ H l = some (.lst xs) ∧ H b = some (.lst zs) ∧ xs.length + zs.length ≤ sizeLine ∧ ∀ p, H p = none → Q (.ref p) (upd H p (.lst (xs ++ zs)))
theorem Gh : OpR X (binaryOp .Add) Jl := by
  intro pins s σ H x y v u Q I rx ry h
  obtain ⟨l, b, xs, zs, rfl, rfl, hH, hB, hz, q⟩ := h
  cases rx
  cases ry
  obtain ⟨z, its, n, r, hl, e⟩ := I.lstM hH
  obtain ⟨z2, its2, n2, r2, hl2, e2⟩ := I.lstM hB
  refine PySem.P.add_list e e2 ?_ (by rw [List.size_toArray, List.size_toArray]; omega)
  have ea : its.toArray ++ its2.toArray = (its ++ its2).toArray := by simp
  rw [ea]
  exact ⟨.ref _, _, I.lnew (t' := s.toks) (r.append r2) (by rw [List.length_append]; omega), rfl, q _ I.fresh⟩
def Jm : R2 := fun x y H Q => ∃ l k xs, x = .ref l ∧ y = .int k ∧ H l = some (.lst xs) ∧ -(2 ^ 63) ≤ k ∧ k < 2 ^ 63 ∧ xs.length * k.toNat ≤ sizeLine ∧
  ∀ p, H p = none → Q (.ref p) (upd H p (.lst (List.replicate k.toNat xs).flatten))
theorem Ec {α : Type} (xs : List α) (k : Nat) : (List.replicate k xs).flatten.length = k * xs.length := by
  induction k with
  | zero => simp
  | succ k ih => rw [List.replicate_succ, List.flatten_cons, List.length_append, ih, Nat.succ_mul, Nat.add_comm]
theorem Gi : OpR X (binaryOp .Mult) Jm := by
  intro pins s σ H x y v u Q I rx ry h
  obtain ⟨l, k, xs, rfl, rfl, hH, h1, h2, hz, q⟩ := h
  cases rx
  obtain ⟨t, rfl⟩ := ry
  obtain ⟨z, its, n, r, hl, e⟩ := I.lstM hH
  have hlen : its.toArray.size * k.toNat ≤ sizeLine := by rw [List.size_toArray, ← hl]; exact hz
  have hcap : ¬ its.toArray.size * k.toNat > (2 ^ 63 - 1) / 8 := by
    have : (sizeLine : Nat) ≤ (2 ^ 63 - 1) / 8 := by decide
    omega
  have hfit : ¬ (!Builtin.List.listFitsIndex k) = true := by
    rw [fitsIndex_both h1 h2]
    exact Bool.false_ne_true
  have hlong : ¬ Builtin.List.listTooLong (its.toArray.size * k.toNat) = true := by
    rw [B5 hlen]
    exact Bool.false_ne_true
  have hnew : List.foldl (fun x1 x2 => x1 ++ x2) #[] (List.replicate (if its.toArray.isEmpty = true then 0 else k.toNat) its.toArray) = (List.replicate k.toNat its).flatten.toArray := by
    have f0 : ∀ m : Nat, List.foldl (fun x1 x2 => x1 ++ x2) #[] (List.replicate m its.toArray) = (List.replicate m its).flatten.toArray := fun m => by
      have := rk its m []
      rw [List.nil_append] at this
      exact this
    rw [f0]
    cases its with
    | nil => simp
    | cons a r' => rw [if_neg (by simp)]
  refine wpAny_binaryOp_repeat_ref (T := "list") (U := "int") (by decide) ⟨_, e, rfl⟩ (fun s' => typeIs_int s' k t) noFill_list_mul F.fills_int_mul F.slot_int_rmul repeat_list F.slot_int_index.lookup
    (call_meets F.slot_int_rmul (typeIs_int s k t) F.entry_int_rmul (F.args_int_rmul_2 _ _) (int___rmul___int_list k t l its.toArray n)
      ⟨e, rfl, ⟨_, e, rfl⟩, call_meets F.slot_list_mul ⟨_, e, rfl⟩ F.entry_list_mul (F.args_list_mul_2 _ _) (AutoListH.list___mul___list_int_3 l its.toArray n k t hfit hcap hlong) ⟨e, ?_⟩⟩)
  rw [hnew]
  exact ⟨.ref _, _, I.lnew (t' := s.toks) (r.rep k.toNat) (by rw [Ec, Nat.mul_comm]; exact hz), rfl, q _ I.fresh⟩
end
section
variable {prog : Program} {w : World} {A : Around} {E : Value → Shared → Prop} {s : Shared}
end
section
variable {X : Cx}
end
end L2
namespace Att
open PySem PySem.W PySem.Calls PyProof.Rows
theorem mG {P : Params} {h : Heap} : ∀ (ns : List Int) (vs : List Value), WellAll P h vs (ns.map WData.int) → IntsAre vs ns := by
  intro ns
  induction ns with
  | nil =>
    intro vs w
    rw [List.map_nil] at w
    cases w
    exact .nil
  | cons n ns ih =>
    intro vs w
    rw [List.map_cons] at w
    cases w with
    | cons a b =>
      cases a
      exact .cons _ _ (ih _ b)
theorem z0 {l : OpenLaw} {n : Nat} (hn : l.most = some n) {P : Params} {h : Heap} {args : List WData} {vals : List Value}
    (hpre : l.row.toRowW.claim.pre args = true) (hwl : WellAll P h vals args) :
    ∃ a vs ns, vals = [Value.ref a] ∧ args = [WData.list (ns.map WData.int)] ∧ h.get? a = some { cls := .type "list", data := .seq vs.toArray } ∧ IntsAre vs ns ∧ ns.length ≤ n := by
  have hsh : WShape.hasAll [] args [.list .int] = true := (pre_splitW hpre).1
  have hc : l.pre.holds [] { args := args } = true := (pre_splitW hpre).2
  obtain ⟨d, r, rfl, h1, h2⟩ := hasAllW_cons hsh
  obtain rfl := hasAllW_nil h2
  obtain ⟨xs, rfl, h3⟩ := hasW_list h1
  obtain ⟨ns, rfl⟩ := items_int h3
  have hlen : ns.length ≤ n := by
    unfold OpenLaw.pre at hc
    have h4 : (WTm.not (.lt (.lit (.int (n : Int))) (.len (.arg 0)))).holds [] { args := [.list (ns.map .int)] } = true := by
      have h4 := (holds_andW hc).1
      rw [hn] at h4
      exact h4
    have h5 := condW_of h4 (w_not (w_lt w_lit (w_len_list (w_arg rfl))))
    rw [List.length_map] at h5
    refine Nat.le_of_not_lt fun q => ?_
    have q' : (n : Int) < ((ns.length : Nat) : Int) := by omega
    first
      | (rw [decide_eq_true q'] at h5; exact absurd h5 (by decide))
      | (simp at h5; omega)
  cases hwl with
  | cons w1 w2 =>
    cases w2
    cases w1 with
    | list ho hall => exact ⟨_, _, ns, rfl, rfl, ho, mG ns _ hall, hlen⟩
theorem z6 (l : OpenLaw) (args : List WData) : l.row.toRowW.claim.post args (.bool true) args = true :=
  postW_of (r := l.row.toRowW) (X := (true == true))
    (show WShape.has [] (.bool true) .bool = true by first | rfl | decide | simp [WShape.has, WShape.arms, WShape.armsAll])
    (show (WTm.eq .res (.lit (.bool true))).value [] { args := args, res := some (.bool true), after := args } = some (.bool (true == true)) from w_eq_bool (w_res rfl) w_lit) rfl
theorem attach_call {l : OpenLaw} {n : Nat} {q : Program} {loose : List Str} {XP : (Str → Option Value) → Heap → Prop} {YP : World → Heap → Prop} {d : DefRec}
    (hn : l.most = some n) (hdf : d.params.defaults = [])
    (call : ∀ (w : World) (s₀ s₁ : Shared) (mg mb : Str → Option Value) (fa : Addr) (o : Obj) (pm cd doc : Value) (a : Addr) (vs : List Value) (ns : List Int),
      Ground q loose [] XP w s₀ mg mb s₁.heap → YP w s₁.heap →
      s₁.heap.get? fa = some o → o.data = .func (docDef d.name d.params d.body d.scope pm cd doc) → s₁.heap.CodeRec cd d.name → mg d.name = some (.ref fa) →
      s₁.heap.get? a = some { cls := .type "list", data := .seq vs.toArray } → IntsAre vs ns → ns.length ≤ n → s₁.gens = #[] →
      codeAny (model l.prog w) callerA (.call (.ref fa) ⟨[.ref a], []⟩) (fun r s' => r = .ok (.ret (.bool true)) ∧ OldK s₁.heap s'.heap ∧ s'.os = s₁.os ∧ AllBare s'.gens) s₁) :
    WalkO q loose XP YP l.row.toRowW d [] (fun f vs => PySem.call f vs) := by
  intro w s₀ s₁ mg mb G Y fa o pm cd doc dV kV ho hd hcd hD hmg hg args vals as hpre hlay hrd hwl hlo
  obtain rfl : dV = .none := Dflts.none hD hdf
  obtain rfl : kV = .none := Dflts.noKw hD
  obtain ⟨a, vs, ns, rfl, rfl, hobj, hints, hlen⟩ := z0 hn hpre hwl
  refine enter_call (codeAny_mono (call w s₀ s₁ mg mb fa o pm cd doc a vs ns G Y ho (fd_plain hd) hcd hmg hobj hints hlen hg) fun r s' hq => ?_)
  obtain ⟨rfl, h2, h3, h4⟩ := hq
  exact ⟨.inl ⟨.bool true, .bool true, [], rfl, fun _ => rfl, .bool true, z6 l _, fun _ => ⟨List.Pairwise.nil, fun _ hm => (nomatch hm)⟩⟩, h2, h3, h4⟩
section
variable {prog : Program} {w : World} {A : Around} {E : Value → Shared → Prop} {s : Shared} {K : Frag}
def noObjs (h : Heap) : Heap := { h with objs := #[] }
theorem noObjs_get (h : Heap) (b : Addr) : (noObjs h).get? b = none := by
  cases e : (noObjs h).get? b with
  | none => rfl
  | some o => exact absurd (Heap.lt_size e) (Nat.not_lt_zero _)
def ledger (h : Heap) (L d : Addr) : List (Addr × Obj) := (List.range h.objs.size).filterMap fun a => if a = L ∨ a = d then none else (h.get? a).map fun o => (a, o)
theorem mem_ledger {h : Heap} {L d a : Addr} {o : Obj} : (a, o) ∈ ledger h L d ↔ a ≠ L ∧ a ≠ d ∧ h.get? a = some o := by
  unfold ledger
  rw [List.mem_filterMap]
  constructor
  · rintro ⟨b, _, e⟩
    split at e
    · cases e
    · rename_i hb
      obtain ⟨o', ho, e'⟩ := Option.map_eq_some_iff.mp e
      cases e'
      exact ⟨fun q => hb (.inl q), fun q => hb (.inr q), ho⟩
  · rintro ⟨n1, n2, ho⟩
    refine ⟨a, List.mem_range.mpr (Heap.lt_size ho), ?_⟩
    rw [if_neg (show ¬ (a = L ∨ a = d) from fun q => q.elim n1 n2), ho] <;> rfl
theorem fr_all {h : Heap} {L : Addr} {m : Str → Option Value} (n : h.Ns L m) : Fr (noObjs h) L h m :=
  ⟨n, fun b o e => (by rw [noObjs_get] at e; cases e), Nat.zero_le _⟩
end
end Att
namespace L2
open PySem PySem.Spec PyProof.Rows
theorem rm : ∀ {vs : List Value} {ns : List Int}, IntsAre vs ns → aV (ns.map V.int) vs
  | _, _, .nil => .nil
  | _, _, .cons n t h => .cons ⟨t, rfl⟩ (rm h)
def Gj (H : Hp) : Prop := ∀ b, H b = none ∨ ∃ o xs, H b = some (.frz o (.lst xs))
theorem B6 {P : Program} {w : World} {K : PySem.W.Frag} {mg mb : Str → Option Value} {CX : CXT} {k : Nat} {fa a : Addr} {fd : FuncData} {x : Str} {sp : Sp} {s₁ : Shared} {vs : List Value} {ns : List Int}
    (KX : K.In s₁.heap) (hns : s₁.heap.Ns mainGlobals mg) (hb : s₁.heap.Ns builtinsNs mb) (hbb : ∀ x : Str, x ≠ "__name__" → mb x = bootBuiltins x) (hlim : s₁.heap.NoLimit) (hg : s₁.gens = #[])
    (ha : s₁.heap.get? a = some { cls := .type "list", data := .seq vs.toArray }) (hi : IntsAre vs ns) (hl : ns.length ≤ sizeLine) (hr : fZ k callerA)
    (F : ∀ base : Heap, K.In base → base.Ns mainGlobals mg → ce P w K mg base CX k fa fd [x] sp) (hbind : ∀ (s : Shared) (u : Value), BindsTo s fd ⟨[u], []⟩ [(x, u)])
    (hsp : ∀ H : Hp, Gj H → SqL K H a (ns.map V.int) → sp [.ref a] H (fun v _ => v = .bl true) fun _ _ _ => False)
    (hCX : ∀ H e s', CX [] H s₁ (fun _ _ _ => False) e s' → False) :
    codeAny (model P w) callerA (.call (.ref fa) ⟨[.ref a], []⟩) (fun r s' => r = .ok (.ret (.bool true)) ∧ OldK s₁.heap s'.heap ∧ s'.os = s₁.os ∧ AllBare s'.gens) s₁ := by
  have rv := rm hi
  have lenV := hi.length
  have core : ∀ H : Hp, Gj H → SqL K H a (ns.map V.int) → HOk P w H s₁.heap → (∀ b, H b ≠ none → b = a) → (H a ≠ none → K.lookup a = none) →
      codeAny (model P w) callerA (.call (.ref fa) ⟨[.ref a], []⟩) (fun r s' => r = .ok (.ret (.bool true)) ∧ OldK s₁.heap s'.heap ∧ s'.os = s₁.os ∧ AllBare s'.gens) s₁ := by
    intro H hO hS hok hA hK
    have base_of : ∀ {b : Addr} {o : Obj}, s₁.heap.get? b = some o → H b = none → (sF s₁.heap H).get? b = some o := fun e n => BI e n
    have noA : ∀ {b : Addr} {o : Obj} {es : Array DictEntry} {ep : Nat}, s₁.heap.get? b = some o → o.data = .dict es ep → H b = none := fun {b o es ep} e d => by
      cases q : H b with
      | none => rfl
      | some u =>
        have e' : b = a := hA b (by rw [q]; simp)
        subst e'
        rw [ha] at e; cases e
        have d' : Data.seq vs.toArray _ = Data.dict es ep := d
        cases d'
    have nsK : ∀ {b : Addr} {m : Str → Option Value}, s₁.heap.Ns b m → (sF s₁.heap H).Ns b m := fun {b m} ⟨o, es, ep, e, d, r⟩ => ⟨o, es, ep, base_of e (noA e d), d, r⟩
    have hKb : K.In (sF s₁.heap H) := fun b o e => base_of (KX b o e) (by
      cases q : H b with
      | none => rfl
      | some u =>
        have e' : b = a := hA b (by rw [q]; simp)
        subst e'
        rw [hK (by rw [q]; simp)] at e; cases e)
    have hM : Mod K mg (sF s₁.heap H) := ⟨hKb, nsK hns, ⟨mb, nsK hb, hbb⟩, let ⟨mc, h1, h2⟩ := hlim; ⟨mc, nsK h1, h2⟩⟩
    have e0 : D6 P w K mg (sF s₁.heap H) callerA [] s₁ H := ⟨rfl, hM, fun b o e => DY e, Nat.le_of_eq (zT _ _), trivial, fun b hb => absurd (show b ∈ ([] : List Addr) from hb) (by simp), hok, .of_eq hg⟩
    refine codeAny_mono ((F _ hKb (nsK hns)).run callerA [] s₁ H ⟨[.ref a], []⟩ [.ref a] [.ref a] _ _ hr e0 (hbind s₁ (.ref a)) (.cons rfl .nil) (hsp H hO hS)) fun r s' h => ?_
    cases r with
    | error e => exact (hCX H e s' h).elim
    | ok fl =>
      cases fl with
      | next => exact False.elim h
      | brk => exact False.elim h
      | cont => exact False.elim h
      | ret u =>
        obtain ⟨v, H', os, bare, un, hok', r', q⟩ := h
        have q' : v = .bl true := q
        subst q'
        obtain rfl : u = Value.bool true := r'
        refine ⟨rfl, OldK.of_keep fun b o e => ?_, os, bare⟩
        cases q : H b with
        | none => exact un.keep b o e q (by intro z; exact absurd (show b ∈ ([] : List Addr) from z) (by simp)) (by simp)
        | some u =>
          rcases hO b with z | ⟨ob, xs, z⟩
          · rw [q] at z; cases z
          · have z2 := un.frzs b ob _ z
            obtain ⟨e1, _⟩ := hok b _ z
            obtain ⟨e2, _⟩ := hok' b _ z2
            rw [e] at e1; cases e1
            exact e2
  cases hk : K.lookup a with
  | some o =>
    have e := KX a o hk
    rw [ha] at e
    cases e
    refine core (fun _ => none) (fun _ => .inl rfl) (.inr ⟨_, vs.toArray, _, hk, rfl, rfl, rfl, by rw [List.size_toArray, lenV]; exact hl, by simpa using rv⟩) (fun b u z => by have z' : (none : Option HO) = some u := z; cases z') (fun b z => absurd rfl z) fun z => absurd rfl z
  | none =>
    refine core (fun b => if b = a then some (.frz { cls := .type "list", data := .seq vs.toArray } (.lst (ns.map V.int))) else none) (fun b => ?_) (.inl (.inr ⟨{ cls := .type "list", data := .seq vs.toArray }, if_pos rfl⟩)) (fun b u z => ?_) (fun b z => ?_) fun _ => hk
    · by_cases hb : b = a
      · exact .inr ⟨_, _, if_pos hb⟩
      · exact .inl (if_neg hb)
    · by_cases hb : b = a
      · have z' := (if_pos hb).symm.trans z
        cases z'
        subst hb
        exact ⟨ha, by rw [List.length_map]; exact hl, vs, _, rv, ha⟩
      · have z' := (if_neg hb).symm.trans z
        cases z'
    · by_cases hb : b = a
      · exact hb
      · exact absurd (if_neg hb) z
end L2
namespace L2
open PySem PySem.Spec PyProof.Rows
theorem Ed {l : PySem.W.OpenLaw} {n k : Nat} {q : Program} {loose : List Str} {XP : (Str → Option Value) → Heap → Prop} {YP : World → Heap → Prop} {d : DefRec} {K : Params → PySem.W.Frag} {CX : World → CXT} {sp : World → Sp} {x : Str}
    (hn : l.most = some n) (hn2 : n ≤ sizeLine) (hdf : d.params.defaults = []) (hr : fZ k callerA)
    (hY : ∀ (w : World) (h : Heap), YP w h → (K w.params).In h)
    (F : ∀ (w : World) (mg : Str → Option Value) (fa : Addr) (h : Heap), (K w.params).In h → h.Ns mainGlobals mg → mg d.name = some (.ref fa) →
      ∃ fd : FuncData, (∀ (s : Shared) (u : Value), BindsTo s fd ⟨[u], []⟩ [(x, u)]) ∧
        ∀ base : Heap, (K w.params).In base → base.Ns mainGlobals mg → ce l.prog w (K w.params) mg base (CX w) k fa fd [x] (sp w))
    (hsp : ∀ (w : World) (H : Hp) (a : Addr) (ns : List Int), ns.length ≤ n → Gj H → SqL (K w.params) H a (ns.map V.int) → sp w [.ref a] H (fun v _ => v = .bl true) fun _ _ _ => False)
    (hCX : ∀ (w : World) (H : Hp) (s : Shared) (e : Value) (s' : Shared), CX w [] H s (fun _ _ _ => False) e s' → False) :
    PySem.W.WalkO q loose XP YP l.row.toRowW d [] (fun f vs => PySem.call f vs) := by
  refine Att.attach_call hn hdf fun w s₀ s₁ mg mb fa o pm cd doc a vs ns G Y ho hd hcd hmg hobj hints hlen hg => ?_
  have KX := hY w _ Y
  obtain ⟨fd, hb, hF⟩ := F w mg fa _ KX G.T.g hmg
  exact B6 KX G.T.g G.T.b G.T.builtins G.T.nolimit hg hobj hints (Nat.le_trans hlen hn2) hr hF hb (fun H hO hS => hsp w H a ns hlen hO hS) fun H e s' => hCX w H s₁ e s'
end L2
namespace L2
open PySem PySem.Spec PyProof.Rows
def aY (s : Stmt) : Arguments := match s with
  | .FunctionDef _ a _ _ _ _ _ _ _ _ => a
  | _ => { posonlyargs := [], args := [], vararg := none, kwonlyargs := [], kw_defaults := [], kwarg := none, defaults := [] }
def aS (s : Stmt) : List Stmt := match s with
  | .FunctionDef _ _ b _ _ _ _ _ _ _ => b
  | _ => []
def ak (s : Stmt) : Scope := match s with
  | .FunctionDef _ _ _ _ _ _ sc _ _ _ => sc
  | _ => { kind := .function, names := [], isGenerator := false, isCoroutine := false }
abbrev CX0 : CXT := fun _ _ _ _ _ _ => False
abbrev E0 : XK := fun _ _ _ => False
theorem Ij {X : Cx} : nc CX0 X E0 := fun _ _ _ _ _ _ _ h => h.elim
structure Fun (K : PySem.W.Frag) (x qual : Str) (st : Stmt) (f : Addr) (fd : FuncData) : Prop where
  ex : ∃ (oc : Value) (od : Option Addr) (kV doc pm : Value) (an : Option Addr) (cdv ct : Value) (osl : Array (Option Value)),
    fd = PySem.W.fnOf x qual (aY st) (aS st) (ak st) .none kV doc pm an cdv ct ∧ K.lookup f = some ⟨oc, od, .func fd, osl⟩ ∧ PySem.W.codeIn K cdv qual = true
  kp : PySem.W.keepIn K (.ref f) = true
section
variable {P : Program} {w : World} {K : PySem.W.Frag} {mg : Str → Option Value} {base : Heap}
theorem Fun.ok {x qual : Str} {st : Stmt} {f : Addr} {fd : FuncData} {N ps : List Str} {k : Nat} {sp : Sp} (F : Fun K x qual st f fd) (S : aX N ps (ak st)) (len : ∀ vs H Q E, sp vs H Q E → vs.length = ps.length)
    (hbody : ∀ (cdv : Value) (A : Around) (outer : List Env) (s : Shared) (H : Hp) (vs : List V) (Q : VK) (E : XK), fZ k (A.deeper (envOfC qual (ak st) s.heap.objs.size f cdv)) → sp vs H Q E →
      ∃ t, PSs (mF CX0 P w K mg base N qual (ak st) f cdv A outer s H E).nox (aS st) t ∧ t { nx := fun _ H' => Q .non H', rt := Q } (iP N vs) H) : ce P w K mg base CX0 (k + 1) f fd ps sp := by
  obtain ⟨oc, od, kV, doc, pm, an, cdv, ct, osl, rfl, lk, hcd⟩ := F.ex
  refine Fy lk hcd S len fun A outer s H vs Q E hr hsp => ?_
  obtain ⟨t, h, q⟩ := hbody cdv A outer s H vs Q E hr hsp
  exact ⟨t, h.nox, q⟩
theorem Fun.binds {x qual : Str} {st : Stmt} {f : Addr} {fd : FuncData} {ps : List Str} (F : Fun K x qual st f fd)
    (h : ∀ (kV doc pm : Value) (an : Option Addr) (cdv ct : Value) (us : List Value), us.length = ps.length → bindArgs (PySem.W.fnOf x qual (aY st) (aS st) (ak st) .none kV doc pm an cdv ct) ⟨us, []⟩ = pure (ps.zip us)) : iO K fd ps [] := by
  obtain ⟨oc, od, kV, doc, pm, an, cdv, ct, osl, rfl, lk, hcd⟩ := F.ex
  exact .all (h kV doc pm an cdv ct)
theorem bC {x qual : Str} {st : Stmt} {f : Addr} {oc : Value} {od an : Option Addr} {osl : Array (Option Value)} {kV doc pm cdv ct : Value} (l : K.lookup f = some ⟨oc, od, .func (PySem.W.fnOf x qual (aY st) (aS st) (ak st) .none kV doc pm an cdv ct), osl⟩)
    (c : PySem.W.codeIn K cdv qual = true) (k : PySem.W.keepIn K (.ref f) = true) : Fun K x qual st f (PySem.W.fnOf x qual (aY st) (aS st) (ak st) .none kV doc pm an cdv ct) := ⟨⟨oc, od, kV, doc, pm, an, cdv, ct, osl, rfl, l, c⟩, k⟩
end
section
variable {X : Cx}
end
def gc (H H' : Hp) : Prop := ∀ b o, H b = some o → H' b = some o
theorem gc.refl (H : Hp) : gc H H := fun _ _ h => h
end L2
set_option linter.all false
namespace L2
open PySem PySem.Spec
structure ni (h : Heap) (a D : Addr) (o : Obj) : Prop where
  at_ : h.get? a = some o
  cls : o.cls = .ref D
def jL (a C : Addr) : HO := .ext fun h => ∃ o, ni h a C o
end L2
namespace Fm
inductive D where
  | non | bl (b : Bool) | int (i : Int) | str (x : List Nat) | tup (l : List D) | ref (n : Nat) | lit (l : List D) | exn (c : String) (l : List D)
deriving Inhabited
inductive gv where
  | lst (l : List D) | dct (l : List (Int × D))
abbrev Hd := List gv
inductive Res (α : Type) where
  | ok (a : α) (h : Hd) | exc (x : D) (h : Hd) | bad
def Res.bind {α β : Type} (r : Res α) (f : α → Hd → Res β) : Res β := match r with
  | .ok a h => f a h | .exc x h => .exc x h | .bad => .bad
@[simp] theorem aI {α β : Type} (a : α) (h : Hd) (f : α → Hd → Res β) : (Res.ok a h).bind f = f a h := rfl
abbrev Sd := List (Option D)
abbrev EF := Sd → Hd → Res D
abbrev TF := Sd → Hd → Res Bool
abbrev LF := Sd → Hd → Res (List D)
inductive Out where
  | nx (σ : Sd) (h : Hd) | rt (d : D) (h : Hd) | bk (σ : Sd) (h : Hd) | ct (σ : Sd) (h : Hd) | exc (x : D) (σ : Sd) (h : Hd) | bad
abbrev SF := Sd → Hd → Out
abbrev Fn := List D → Hd → Res D
abbrev SZ : Nat := 1000000
@[simp] def slot (σ : Sd) (i : Nat) : Option D := match σ[i]? with | some (some d) => some d | _ => none
@[simp] def aa (i : Nat) : EF := fun σ h => match slot σ i with | some d => .ok d h | none => .bad
@[simp] def fC (d : D) : EF := fun _ h => .ok d h
abbrev O2 := D → D → Hd → Res D
@[simp] def aj (g : O2) (a b : EF) : EF := fun σ h => (a σ h).bind fun x h => (b σ h).bind fun y h => g x y h
@[simp] def oI (g : Int → Int → Int) : O2 := fun x y h => match x, y with | .int i, .int j => .ok (.int (g i j)) h | _, _ => .bad
@[simp] def oB (g : Int → Int → Bool) : O2 := fun x y h => match x, y with | .int i, .int j => .ok (.bl (g i j)) h | _, _ => .bad
@[simp] def oIc (c : Int → Int → Bool) (g : Int → Int → Int) : O2 := fun x y h => match x, y with | .int i, .int j => if c i j then .ok (.int (g i j)) h else .bad | _, _ => .bad
def sml (i : Int) : Bool := decide (-18446744073709551616 < i) && decide (i < 18446744073709551616)
@[simp] def bJ : O2 := fun x y h => match x, y with
  | .int i, .int j => .ok (.int (i + j)) h
  | .tup (x :: xs), .tup ys => if (x :: xs).length + ys.length ≤ SZ then .ok (.tup (x :: xs ++ ys)) h else .bad
  | _, _ => .bad
@[simp] def sS : O2 := fun x y h => (oI (· - ·)) x y h
@[simp] def g9 : O2 := fun x y h => (oIc (fun i j => sml i || sml j) (· * ·)) x y h
@[simp] def cE : O2 := fun x y h => (oIc (fun _ j => decide (0 < j)) (· % ·)) x y h
@[simp] def eU : O2 := fun x y h => (oIc (fun _ j => decide (0 < j) && decide (j < 2 ^ 250)) (· / ·)) x y h
@[simp] def z7 : O2 := fun x y h => (oIc (fun i j => decide (0 ≤ j) && decide (j ≤ 1000000) && sml i) (fun i j => i ^ j.toNat)) x y h
@[simp] def oLt : O2 := fun x y h => (oB fun i j => decide (i < j)) x y h
@[simp] def oLe : O2 := fun x y h => (oB fun i j => decide (i ≤ j)) x y h
@[simp] def oGt : O2 := fun x y h => (oB fun i j => decide (j < i)) x y h
@[simp] def Jz : D → Hd → Res D := fun x h => match x with | .int i => .ok (.int (-i)) h | _ => .bad
@[simp] def jM : D → Bool | .non => true | _ => false
@[simp] def nj : O2 := fun x y h => if jM y then .ok (.bl (jM x)) h else .bad
@[simp] def ee : O2 := fun x y h => if jM y then .ok (.bl (!jM x)) h else .bad
@[simp] def b2i (b : Bool) : Int := if b then 1 else 0
mutual
def peq : D → D → Option Bool
  | .int i, k => match k with | .int j => some (decide (i = j)) | .bl c => some (decide (i = b2i c)) | .non => some false | .tup _ => some false | _ => none
  | .bl c, k => match k with | .int j => some (decide (b2i c = j)) | .bl d => some (decide (c = d)) | _ => none
  | .str x, k => match k with | .str y => some (decide (x = y)) | _ => none
  | .non, k => match k with | .non => some true | .int _ => some false | .tup _ => some false | _ => none
  | .tup xs, k => match k with | .tup ys => (jz xs ys).map fun b => b && decide (xs.length = ys.length) | .non => some false | .int _ => some false | _ => none
  | .ref _, _ => none
  | .lit _, _ => none
  | .exn _ _, _ => none
def jz : List D → List D → Option Bool
  | x :: xs, y :: ys => match peq x y, jz xs ys with
    | some a, some b => some (a && b)
    | _, _ => none
  | _, _ => some true
end
mutual
def dep : D → Nat
  | .tup l => nn l + 1
  | _ => 0
def nn : List D → Nat
  | [] => 0
  | x :: xs => max (dep x) (nn xs)
end
def eqL (xs ys : List D) : Option Bool := if nn xs ≤ 20 then (if xs.length = ys.length then jz xs ys else some false) else none
@[simp] def fP (h : Hd) : D → Option (List D)
  | .ref n => match h[n]? with | some (.lst l) => some l | _ => none
  | .lit l => some l
  | _ => none
@[simp] def eqG (h : Hd) (x y : D) : Option Bool := match fP h x, fP h y with
  | some xs, some ys => eqL xs ys
  | none, none => if dep x ≤ 20 then peq x y else none
  | _, _ => none
@[simp] def oEq : O2 := fun x y h => match eqG h x y with | some b => .ok (.bl b) h | none => .bad
@[simp] def oNe : O2 := fun x y h => match eqG h x y with | some b => .ok (.bl (!b)) h | none => .bad
@[simp] def asB (r : Res D) : Res Bool := r.bind fun x h => match x with | .bl b => .ok b h | _ => .bad
@[simp] def tE (a : EF) : TF := fun σ h => asB (a σ h)
@[simp] def cH (t : TF) : TF := fun σ h => (t σ h).bind fun b h => .ok (!b) h
@[simp] def fY (t u : TF) : TF := fun σ h => (t σ h).bind fun b h => if b then u σ h else .ok false h
@[simp] def tOr (t u : TF) : TF := fun σ h => (t σ h).bind fun b h => if b then .ok true h else u σ h
@[simp] def fT (t : TF) : EF := fun σ h => (t σ h).bind fun b h => .ok (.bl b) h
@[simp] def fIf (t : TF) (a b : EF) : EF := fun σ h => (t σ h).bind fun c h => if c then a σ h else b σ h
@[simp] def nr (g k : O2) (a b c : EF) : EF := fun σ h => (a σ h).bind fun x h => (b σ h).bind fun y h => (g x y h).bind fun z h => match z with
  | .bl true => (c σ h).bind fun w h => k y w h
  | .bl false => .ok (.bl false) h
  | _ => .bad
@[simp] def ao : LF := fun _ h => .ok [] h
@[simp] def ad (a : EF) (r : LF) : LF := fun σ h => (a σ h).bind fun x h => (r σ h).bind fun xs h => .ok (x :: xs) h
@[simp] def cj (r : LF) : EF := fun σ h => (r σ h).bind fun xs h => if xs.length ≤ SZ then .ok (.tup xs) h else .bad
@[simp] def cy (r : LF) : EF := fun σ h => (r σ h).bind fun xs h => if xs.length ≤ SZ then .ok (.ref h.length) (h ++ [.lst xs]) else .bad
@[simp] def jN (h : Hd) : D → Option (List D)
  | .tup l => some l
  | .lit l => some l
  | .ref n => match h[n]? with | some (.lst l) => some l | _ => none
  | _ => none
@[simp] def lOf (a : EF) : LF := fun σ h => (a σ h).bind fun x h => match jN h x with | some l => .ok l h | none => .bad
def ixN (n : Nat) (i : Int) : Option Nat := if 0 ≤ i then (if i < n then some i.toNat else none) else if -(n : Int) ≤ i then some (i + n).toNat else none
def atI (xs : List D) (i : Int) : Option D := (ixN xs.length i).bind fun j => xs[j]?
@[simp] def fIx (a : LF) (b : EF) : EF := fun σ h => (a σ h).bind fun l h => (b σ h).bind fun y h => match y with
  | .int i => match atI l i with | some d => .ok d h | none => .bad
  | _ => .bad
@[simp] def oAt : O2 := fun x y h => match jN h x, y with
  | some l, .int i => match atI l i with | some d => .ok d h | none => .bad
  | _, _ => .bad
@[simp] def fAt (a b : EF) : EF := fun σ h => aj oAt a b σ h
@[simp] def dA (a : LF) : EF := fun σ h => (a σ h).bind fun l h => .ok (.int l.length) h
def iE : List D → Option (List Int)
  | [] => some []
  | .int i :: r => (iE r).map (i :: ·)
  | _ => none
@[simp] def Ee (a : LF) : EF := fun σ h => (a σ h).bind fun l h => match iE l with | some is => .ok (.int is.sum) h | none => .bad
def gw : List D → Option (List Bool)
  | [] => some []
  | .bl b :: r => (gw r).map (b :: ·)
  | _ => none
@[simp] def uN (a : LF) : EF := fun σ h => (a σ h).bind fun l h => match gw l with | some bs => .ok (.bl (bs.all id)) h | none => .bad
@[simp] def dQ (a : LF) : EF := fun σ h => (a σ h).bind fun l h => .ok (.tup l) h
@[simp] def Ef (a : EF) : EF := fun σ h => (a σ h).bind fun x h => match x with | .int i => .ok (.int i) h | .bl b => .ok (.int (b2i b)) h | _ => .bad
inductive Ty where | int | bool | tuple | list | str
deriving DecidableEq
@[simp] def sT (h : Hd) (t : Ty) : D → Option Bool
  | .non => some false
  | .bl _ => some (t == .bool || t == .int)
  | .int _ => some (t == .int)
  | .str _ => some (t == .str)
  | .tup _ => some (t == .tuple)
  | .lit _ => some (t == .list)
  | .ref n => match h[n]? with | some (.lst _) => some (t == .list) | some (.dct _) => some false | none => none
  | .exn _ _ => none
@[simp] def dR (t : Ty) (a : EF) : EF := fun σ h => (a σ h).bind fun x h => match sT h t x with | some b => .ok (.bl b) h | none => .bad
def sIx (n d : Nat) : Option Int → Nat
  | none => d
  | some i => if i < 0 then (i + n).toNat else min i.toNat n
def cut (l : List D) (lo hi : Option Int) : List D := (l.drop (sIx l.length 0 lo)).take (sIx l.length l.length hi - sIx l.length 0 lo)
abbrev OF := Sd → Hd → Res (Option Int)
@[simp] def pNo : OF := fun _ h => .ok none h
@[simp] def pAt (a : EF) : OF := fun σ h => (a σ h).bind fun x h => match x with | .int i => .ok (some i) h | _ => .bad
@[simp] def bf (a : EF) (lo hi : OF) : EF := fun σ h => (a σ h).bind fun x h => (lo σ h).bind fun i h => (hi σ h).bind fun j h => match x with
  | .tup l => if sIx l.length 0 i = 0 ∧ sIx l.length l.length j = l.length then .bad else .ok (.tup (cut l i j)) h
  | x => match fP h x with | some l => .ok (.ref h.length) (h ++ [.lst (cut l i j)]) | none => .bad
def bV : List Int → List Int → Bool
  | [], [] => false
  | [], _ :: _ => true
  | _ :: _, [] => false
  | x :: xs, y :: ys => if x = y then bV xs ys else decide (x < y)
def Jn : List D → Option (List (List Int))
  | [] => some []
  | .tup l :: r => match iE l, Jn r with | some a, some b => some (a :: b) | _, _ => none
  | _ => none
@[simp] def au (F : Fn) (r : LF) : EF := fun σ h => (r σ h).bind fun xs h => F xs h
abbrev IF := Sd → Hd → Res (List D × Option Nat)
@[simp] def cq (a : EF) : IF := fun σ h => (a σ h).bind fun x h => match x with
  | .int n => if -1000000 ≤ n ∧ n ≤ 1000000 then .ok ((List.range n.toNat).map (fun k : Nat => .int k), none) h else .bad
  | _ => .bad
@[simp] def hJ (a : EF) : IF := fun σ h => (a σ h).bind fun x h => match x with
  | .tup l => .ok (l, none) h
  | .lit l => .ok (l, none) h
  | .ref n => match h[n]? with | some (.lst l) => .ok (l, some n) h | _ => .bad
  | _ => .bad
@[simp] def rq (a : EF) : IF := fun σ h => (a σ h).bind fun x h => match x with
  | .tup l => .ok ((List.range l.length).zip l |>.map fun p => .tup [.int (p.1 : Nat), p.2], none) h
  | _ => .bad
noncomputable section
open Classical
def iK (g : Option Nat) (all : List D) (h : Hd) : Prop := match g with | none => True | some n => h[n]? = some (.lst all)
abbrev GF := D → Sd → Option Sd
@[simp] def gN (i : Nat) : GF := fun d σ => some (σ.set i (some d))
@[simp] def gT (l : List Nat) : GF := fun d σ => match d with
  | .tup xs => if xs.length = l.length then some ((l.zip xs).foldl (fun σ p => σ.set p.1 (some p.2)) σ) else none
  | _ => none
@[simp] def aE (a b : SF) : SF := fun σ h => match a σ h with | .nx σ h => b σ h | r => r
@[simp] def bn : SF := fun σ h => .nx σ h
@[simp] def outE (r : Res D) (σ : Sd) (k : D → Hd → Out) : Out := match r with | .ok d h => k d h | .exc x h => .exc x σ h | .bad => .bad
@[simp] def aR (g : GF) (a : EF) : SF := fun σ h => outE (a σ h) σ fun d h => match g d σ with | some σ => .nx σ h | none => .bad
@[simp] def bb (a : EF) : SF := fun σ h => outE (a σ h) σ fun d h => .rt d h
@[simp] def dJ (a : EF) : SF := fun σ h => outE (a σ h) σ fun _ h => .nx σ h
@[simp] def sIf (t : TF) (a b : SF) : SF := fun σ h => match t σ h with | .ok c h => if c then a σ h else b σ h | .exc x h => .exc x σ h | .bad => .bad
def iL : SF := fun _ _ => .bad
@[simp] def nt (x i e : EF) : SF := fun σ h => outE (e σ h) σ fun d h => outE (x σ h) σ fun p h => outE (i σ h) σ fun j h => match p, j with
  | .ref n, .int j => match h[n]? with
    | some (.lst l) => match ixN l.length j with
      | some k => .nx σ (h.set n (.lst (l.set k d)))
      | none => .bad
    | _ => .bad
  | _, _ => .bad
@[simp] def Gk : O2 := fun p d h => match p with
  | .ref n => match h[n]? with
    | some (.lst l) => if l.length < SZ then .ok .non (h.set n (.lst (l ++ [d]))) else .bad
    | _ => .bad
  | _ => .bad
@[simp] def mH (x e : EF) : EF := fun σ h => (x σ h).bind fun p h => match p with
  | .ref n => match h[n]? with
    | some (.lst _) => (e σ h).bind fun d h => Gk (.ref n) d h
    | _ => .bad
  | _ => .bad
def eA (g : Option Nat) (all : List D) (tg : GF) (b : SF) : List D → SF
  | [], σ, h => if iK g all h then .nx σ h else .bad
  | x :: xs, σ, h => if iK g all h then match tg x σ with
      | some σ => match b σ h with
        | .nx σ h => eA g all tg b xs σ h
        | .ct σ h => eA g all tg b xs σ h
        | .bk σ h => .nx σ h
        | r => r
      | none => .bad
    else .bad
@[simp] def jA (it : IF) (tg : GF) (b : SF) : SF := fun σ h => match it σ h with
  | .ok (l, g) h => eA g l tg b l σ h
  | .exc x h => .exc x σ h
  | .bad => .bad
@[simp] def iQ : List TF → TF
  | [], _, h => .ok true h
  | t :: r, σ, h => (t σ h).bind fun b h => if b then iQ r σ h else .ok false h
def cw (g : Option Nat) (all : List D) (tg : GF) (cs : List TF) (e : EF) : List D → Sd → Hd → Res (List D)
  | [], _, h => if iK g all h then .ok [] h else .bad
  | x :: xs, σ, h => if iK g all h then match tg x σ with
      | some σ => (iQ cs σ h).bind fun b h => if b then (e σ h).bind fun d h => (cw g all tg cs e xs σ h).bind fun ds h => .ok (d :: ds) h
        else cw g all tg cs e xs σ h
      | none => .bad
    else .bad
@[simp] def hU (nl : Nat) (caps : List Nat) (σ : Sd) : Sd := List.replicate nl none ++ caps.map fun i => slot σ i
@[simp] def cg (nl : Nat) (caps : List Nat) (it : IF) (tg : GF) (cs : List TF) (e : EF) : LF := fun σ h => (it σ h).bind fun p h =>
  cw p.2 p.1 tg cs e p.1 (hU nl caps σ) h
mutual
def pure? : D → Bool
  | .ref _ => false
  | .tup l => fQ l
  | .lit l => fQ l
  | .exn _ l => fQ l
  | _ => true
def fQ : List D → Bool
  | [] => true
  | x :: xs => pure? x && fQ xs
end
def iR : gv → Bool
  | .lst l => fQ l
  | .dct l => l.all fun p => pure? p.2
def zd (h h' : Hd) : Prop := ∀ n c, n < h.length → h'[n]? = some c → h[n]? = some c ∨ iR c = true
def letGo (h : Hd) (r : Res D) : Res D := match r with
  | .ok d h' => if pure? d = true ∧ zd h h' then .ok d (h'.take h.length) else .ok d h'
  | r => r
def runB (n : Nat) (b : SF) : Fn := fun ds h => match b (ds.map some ++ List.replicate (n - ds.length) none) h with
  | .nx _ h => .ok .non h
  | .rt d h => .ok d h
  | .exc x _ h => .exc x h
  | _ => .bad
def bE (np n : Nat) (b : SF) : Fn := fun ds h => if ds.length = np then letGo h (runB n b ds h) else .bad
end
end Fm
set_option Elab.async false
set_option linter.all false
set_option maxRecDepth 100000
namespace Fm
open PySem PySem.Spec L2
def toS (x : List Nat) : Str := ⟨x.toArray⟩
def mf (K : PySem.W.Frag) (H : Hp) (a : Addr) (xs : List V) : Prop :=
  (∃ o, H a = some (.frz o (.lst xs))) ∨
    ∃ (o : Obj) (its : Array Value) (n : Nat), K.lookup a = some o ∧ o.cls = .type "list" ∧ o.dict = none ∧ o.data = .seq its n ∧ its.size ≤ sizeLine ∧ aV xs its.toList
section
variable (K : PySem.W.Frag) (ρ : List Addr) (H : Hp)
mutual
def RD : D → V → Prop
  | .non, v => v = .non
  | .bl b, v => v = .bl b
  | .int i, v => v = .int i
  | .str x, v => v = .str (toS x)
  | .tup l, v => ∃ p vs, v = .ref p ∧ H p = some (.tup vs) ∧ RDs l vs
  | .lit l, v => ∃ p vs, v = .ref p ∧ mf K H p vs ∧ RDs l vs
  | .ref n, v => ∃ a, ρ[n]? = some a ∧ v = .ref a
  | .exn c l, v => l = [] ∧ ∃ a C, v = .ref a ∧ H a = some (jL a C) ∧ PySem.W.nsIn K mainGlobals (Str.ofString c) = some (some (.ref C))
def RDs : List D → List V → Prop
  | [], vs => vs = []
  | d :: ds, vs => ∃ v r, vs = v :: r ∧ RD d v ∧ RDs ds r
end
def RC : gv → Addr → Prop
  | .lst l, a => ∃ vs, H a = some (.lst vs) ∧ RDs K ρ H l vs
  | .dct l, a => ∃ kvs, H a = some (.dK kvs) ∧ kvs.map (·.1) = l.map (fun p => (Sum.inl p.1 : Key)) ∧ RDs K ρ H (l.map (·.2)) (kvs.map (·.2))
structure RH (hd : Hd) : Prop where
  len : ρ.length = hd.length
  nd : ρ.Nodup
  cel : ∀ (n : Nat) c a, hd[n]? = some c → ρ[n]? = some a → RC K ρ H c a
structure RSt (σd : Sd) (σ : St) : Prop where
  len : σd.length = σ.length
  at' : ∀ i d, slot σd i = some d → ∃ v, σ[i]? = some (some v) ∧ RD K ρ H d v
structure RS (σd : Sd) (hd : Hd) (σ : St) : Prop where
  hp : RH K ρ H hd
  st : RSt K ρ H σd σ
end
structure Ext (ρ : List Addr) (H : Hp) (ρ' : List Addr) (H' : Hp) : Prop where
  pre : ∃ t, ρ' = ρ ++ t
  new : ∀ a ∈ ρ', a ∈ ρ ∨ H a = none
  frame : ∀ p o, H p = some o → p ∉ ρ → H' p = some o
section
variable {K : PySem.W.Frag} {ρ ρ' ρ'' : List Addr} {H H' H'' : Hp} {hd hd' : Hd} {σd σd' : Sd} {σ σ' : St}
theorem Ext.refl : Ext ρ H ρ H := ⟨⟨[], by simp⟩, fun _ h => .inl h, fun _ _ h _ => h⟩
theorem Ext.out (e : Ext ρ H ρ' H') {p : Addr} {o : HO} (h : H p = some o) (n : p ∉ ρ) : p ∉ ρ' := fun z => by
  rcases e.new p z with q | q
  · exact n q
  · rw [h] at q; cases q
theorem Ext.trans (a : Ext ρ H ρ' H') (b : Ext ρ' H' ρ'' H'') : Ext ρ H ρ'' H'' where
  pre := by
    obtain ⟨t, rfl⟩ := a.pre
    obtain ⟨u, rfl⟩ := b.pre
    exact ⟨t ++ u, by simp⟩
  new := fun x hx => by
    rcases b.new x hx with q | q
    · exact a.new x q
    · cases e : H x with
      | none => exact .inr rfl
      | some o =>
        by_cases hn : x ∈ ρ
        · exact .inl hn
        · rw [a.frame x o e hn] at q; cases q
  frame := fun p o h n => b.frame p o (a.frame p o h n) (a.out h n)
theorem Ext.same (s : gc H H') : Ext ρ H ρ H' := ⟨⟨[], by simp⟩, fun _ h => .inl h, fun p o h _ => s p o h⟩
theorem Ext.get (e : Ext ρ H ρ' H') {n : Nat} {a : Addr} (h : ρ[n]? = some a) : ρ'[n]? = some a := by
  obtain ⟨t, rfl⟩ := e.pre
  rw [List.getElem?_append_left (List.getElem?_eq_some_iff.mp h).1]
  exact h
theorem RH.mut (r : RH K ρ H hd) {a : Addr} (h : a ∈ ρ) : (∃ vs, H a = some (.lst vs)) ∨ ∃ kvs, H a = some (.dK kvs) := by
  obtain ⟨n, hn⟩ := List.getElem?_of_mem h
  have hl := (List.getElem?_eq_some_iff.mp hn).1
  have hc : hd[n]? = some (hd[n]'(by rw [← r.len]; exact hl)) := by simp
  have q := r.cel n _ a hc hn
  cases e : hd[n]'(by rw [← r.len]; exact hl) with
  | lst l => rw [e] at q; obtain ⟨vs, h1, _⟩ := q; exact .inl ⟨vs, h1⟩
  | dct l => rw [e] at q; obtain ⟨vs, h1, _⟩ := q; exact .inr ⟨vs, h1⟩
theorem RH.noTup (r : RH K ρ H hd) {a : Addr} {vs : List V} (h : H a = some (.tup vs)) : a ∉ ρ := fun z => by
  rcases r.mut z with ⟨_, q⟩ | ⟨_, q⟩ <;> (rw [h] at q; cases q)
theorem RH.noFrz (r : RH K ρ H hd) {a : Addr} {o : Obj} {u : HO} (h : H a = some (.frz o u)) : a ∉ ρ := fun z => by
  rcases r.mut z with ⟨_, q⟩ | ⟨_, q⟩ <;> (rw [h] at q; cases q)
theorem RH.noExt (r : RH K ρ H hd) {a : Addr} {φ : Heap → Prop} (h : H a = some (.ext φ)) : a ∉ ρ := fun z => by
  rcases r.mut z with ⟨_, q⟩ | ⟨_, q⟩ <;> (rw [h] at q; cases q)
structure Kp (ρ : List Addr) (H : Hp) (ρ' : List Addr) (H' : Hp) : Prop where
  get : ∀ (n : Nat) a, ρ[n]? = some a → ρ'[n]? = some a
  tup : ∀ a vs, H a = some (.tup vs) → H' a = some (.tup vs)
  frz : ∀ a o u, H a = some (.frz o u) → H' a = some (.frz o u)
  ext : ∀ a φ, H a = some (.ext φ) → H' a = some (.ext φ)
theorem RH.kp (r : RH K ρ H hd) (e : Ext ρ H ρ' H') : Kp ρ H ρ' H' :=
  ⟨fun _ _ h => e.get h, fun _ _ h => e.frame _ _ h (r.noTup h), fun _ _ _ h => e.frame _ _ h (r.noFrz h), fun _ _ h => e.frame _ _ h (r.noExt h)⟩
theorem Kp.same (s : gc H H') : Kp ρ H ρ H' := ⟨fun _ _ h => h, fun _ _ h => s _ _ h, fun _ _ _ h => s _ _ h, fun _ _ h => s _ _ h⟩
theorem mf.mono {a : Addr} {xs : List V} (k : Kp ρ H ρ' H') (h : mf K H a xs) : mf K H' a xs := by
  rcases h with ⟨o, h⟩ | h
  · exact .inl ⟨o, k.frz _ _ _ h⟩
  · exact .inr h
mutual
theorem RD.mono (k : Kp ρ H ρ' H') : ∀ {d : D} {v : V}, RD K ρ H d v → RD K ρ' H' d v
  | .non, _, h => by simp only [RD] at h ⊢; exact h
  | .bl _, _, h => by simp only [RD] at h ⊢; exact h
  | .int _, _, h => by simp only [RD] at h ⊢; exact h
  | .str _, _, h => by simp only [RD] at h ⊢; exact h
  | .tup l, _, h => by
    simp only [RD] at h ⊢
    obtain ⟨p, vs, e, h1, h2⟩ := h
    exact ⟨p, vs, e, k.tup _ _ h1, RDs.mono k h2⟩
  | .lit l, _, h => by
    simp only [RD] at h ⊢
    obtain ⟨p, vs, e, h1, h2⟩ := h
    exact ⟨p, vs, e, h1.mono k, RDs.mono k h2⟩
  | .ref n, _, h => by
    simp only [RD] at h ⊢
    obtain ⟨a, h1, h2⟩ := h
    exact ⟨a, k.get _ _ h1, h2⟩
  | .exn _ _, _, h => by
    simp only [RD] at h ⊢
    obtain ⟨e0, a, C, e, h1, h2⟩ := h
    exact ⟨e0, a, C, e, k.ext _ _ h1, h2⟩
theorem RDs.mono (k : Kp ρ H ρ' H') : ∀ {l : List D} {vs : List V}, RDs K ρ H l vs → RDs K ρ' H' l vs
  | [], _, h => by simp only [RDs] at h ⊢; exact h
  | d :: ds, _, h => by
    simp only [RDs] at h ⊢
    obtain ⟨v, r, e, h1, h2⟩ := h
    exact ⟨v, r, e, RD.mono k h1, RDs.mono k h2⟩
end
theorem RDs.nil : RDs K ρ H [] [] := by simp only [RDs]
theorem RDs.cons {d : D} {v : V} {ds : List D} {vs : List V} (h : RD K ρ H d v) (t : RDs K ρ H ds vs) : RDs K ρ H (d :: ds) (v :: vs) := by
  simp only [RDs]; exact ⟨v, vs, rfl, h, t⟩
theorem RDs.length : ∀ {l : List D} {vs : List V}, RDs K ρ H l vs → l.length = vs.length
  | [], _, h => by simp only [RDs] at h; subst h; rfl
  | d :: ds, _, h => by
    simp only [RDs] at h
    obtain ⟨v, r, e, h1, h2⟩ := h
    subst e
    simp [RDs.length h2]
theorem RDs.get : ∀ {l : List D} {vs : List V} {i : Nat} {d : D}, RDs K ρ H l vs → l[i]? = some d → ∃ v, vs[i]? = some v ∧ RD K ρ H d v
  | [], _, i, _, _, e => by simp at e
  | d :: ds, _, 0, _, h, e => by
    simp only [RDs] at h
    obtain ⟨v, r, e', h1, h2⟩ := h
    subst e'
    simp at e
    subst e
    exact ⟨v, rfl, h1⟩
  | d :: ds, _, i + 1, x, h, e => by
    simp only [RDs] at h
    obtain ⟨v, r, e', h1, h2⟩ := h
    subst e'
    obtain ⟨w, hw, q⟩ := RDs.get (i := i) (d := x) h2 (by simpa using e)
    exact ⟨w, by simpa using hw, q⟩
theorem RDs.set {d : D} {v : V} (h : RD K ρ H d v) : ∀ {l : List D} {vs : List V} (i : Nat), RDs K ρ H l vs → RDs K ρ H (l.set i d) (vs.set i v)
  | [], _, _, q => by simp only [RDs] at q; subst q; exact RDs.nil
  | x :: xs, _, i, q => by
    simp only [RDs] at q
    obtain ⟨w, r, e, h1, h2⟩ := q
    subst e
    cases i with
    | zero => exact RDs.cons h h2
    | succ i => exact RDs.cons h1 (RDs.set h i h2)
theorem RDs.append : ∀ {l l' : List D} {vs vs' : List V}, RDs K ρ H l vs → RDs K ρ H l' vs' → RDs K ρ H (l ++ l') (vs ++ vs')
  | [], _, _, _, h, q => by simp only [RDs] at h; subst h; exact q
  | d :: ds, _, _, _, h, q => by
    simp only [RDs] at h
    obtain ⟨v, r, e, h1, h2⟩ := h
    subst e
    exact RDs.cons h1 (RDs.append h2 q)
theorem RDs.take : ∀ {l : List D} {vs : List V} (n : Nat), RDs K ρ H l vs → RDs K ρ H (l.take n) (vs.take n)
  | _, _, 0, _ => by simp; exact RDs.nil
  | [], _, n + 1, h => by simp only [RDs] at h; subst h; exact RDs.nil
  | d :: ds, _, n + 1, h => by
    simp only [RDs] at h
    obtain ⟨v, r, e, h1, h2⟩ := h
    subst e
    exact RDs.cons h1 (RDs.take n h2)
theorem RDs.drop : ∀ {l : List D} {vs : List V} (n : Nat), RDs K ρ H l vs → RDs K ρ H (l.drop n) (vs.drop n)
  | _, _, 0, h => by simpa using h
  | [], _, n + 1, h => by simp only [RDs] at h; subst h; exact RDs.nil
  | d :: ds, _, n + 1, h => by
    simp only [RDs] at h
    obtain ⟨v, r, e, h1, h2⟩ := h
    subst e
    simpa using RDs.drop n h2
theorem RC.mono {c : gv} {a : Addr} (k : Kp ρ H ρ' H') (e : H' a = H a) (h : RC K ρ H c a) : RC K ρ' H' c a := by
  cases c with
  | lst l => obtain ⟨vs, h1, h2⟩ := h; exact ⟨vs, e.trans h1, h2.mono k⟩
  | dct l => obtain ⟨vs, h1, h2, h3⟩ := h; exact ⟨vs, e.trans h1, h2, h3.mono k⟩
theorem RH.same (r : RH K ρ H hd) (s : gc H H') : RH K ρ H' hd :=
  ⟨r.len, r.nd, fun n c a h1 h2 => (r.cel n c a h1 h2).mono (Kp.same s) (by
    rcases r.mut (List.mem_of_getElem? h2) with ⟨_, q⟩ | ⟨_, q⟩ <;> rw [q, s _ _ q])⟩
theorem RSt.mono (k : Kp ρ H ρ' H') (r : RSt K ρ H σd σ) : RSt K ρ' H' σd σ :=
  ⟨r.len, fun i d h => let ⟨v, h1, h2⟩ := r.at' i d h; ⟨v, h1, h2.mono k⟩⟩
theorem RS.same (r : RS K ρ H σd hd σ) (s : gc H H') : RS K ρ H' σd hd σ := ⟨r.hp.same s, r.st.mono (Kp.same s)⟩
theorem bF {p : Addr} {o : HO} (h : H p = none) : gc H (upd H p o) := fun b u e => by
  rw [aA (a8 e h)]; exact e
theorem RH.alloc (r : RH K ρ H hd) {p : Addr} {l : List D} {vs : List V} (hp : H p = some (.lst vs)) (hn : p ∉ ρ) (h : RDs K ρ H l vs) : RH K (ρ ++ [p]) H (hd ++ [.lst l]) := by
  have k : Kp ρ H (ρ ++ [p]) H := ⟨fun n a e => by rw [List.getElem?_append_left (List.getElem?_eq_some_iff.mp e).1]; exact e, fun _ _ h => h, fun _ _ _ h => h, fun _ _ h => h⟩
  refine ⟨by simp [r.len], ?_, fun n c a h1 h2 => ?_⟩
  · rw [List.nodup_append]
    exact ⟨r.nd, by simp, fun a ha b hb => by simp at hb; subst hb; intro e; subst e; exact hn ha⟩
  · by_cases hlt : n < hd.length
    · rw [List.getElem?_append_left hlt] at h1
      rw [List.getElem?_append_left (by rw [r.len]; exact hlt)] at h2
      exact (r.cel n c a h1 h2).mono k rfl
    · have e1 : n = hd.length := by
        have := (List.getElem?_eq_some_iff.mp h1).1
        simp at this
        omega
      subst e1
      simp at h1
      subst h1
      rw [← r.len] at h2
      simp at h2
      subst h2
      exact ⟨vs, hp, h.mono k⟩
theorem nu {α : Type} : ∀ {l : List α}, l.Nodup → ∀ {i j : Nat} {x : α}, l[i]? = some x → l[j]? = some x → i = j
  | [], _, i, _, _, e, _ => by simp at e
  | a :: l, nd, 0, 0, _, _, _ => rfl
  | a :: l, nd, 0, j + 1, x, e, e' => by
    simp at e e'
    subst e
    exact absurd (List.mem_of_getElem? e') (List.nodup_cons.mp nd).1
  | a :: l, nd, i + 1, 0, x, e, e' => by
    simp at e e'
    subst e'
    exact absurd (List.mem_of_getElem? e) (List.nodup_cons.mp nd).1
  | a :: l, nd, i + 1, j + 1, x, e, e' => by
    simp at e e'
    rw [nu (List.nodup_cons.mp nd).2 e e']
theorem RH.write (r : RH K ρ H hd) {n : Nat} {p : Addr} {l : List D} {vs : List V} (hp : ρ[n]? = some p) (hn : n < hd.length) (h : RDs K ρ H l vs) : RH K ρ (upd H p (.lst vs)) (hd.set n (.lst l)) := by
  have k : Kp ρ H ρ (upd H p (.lst vs)) := by
    have hm := List.mem_of_getElem? hp
    refine ⟨fun _ _ h => h, fun a us e => ?_, fun a o u e => ?_, fun a φ e => ?_⟩
    · rw [aA (fun z => r.noTup e (by rw [z]; exact hm))]; exact e
    · rw [aA (fun z => r.noFrz e (by rw [z]; exact hm))]; exact e
    · rw [aA (fun z => r.noExt e (by rw [z]; exact hm))]; exact e
  refine ⟨by simp [r.len], r.nd, fun m c a h1 h2 => ?_⟩
  by_cases e : n = m
  · subst e
    rw [List.getElem?_set_self hn] at h1
    cases h1
    rw [hp] at h2
    cases h2
    exact ⟨vs, aT, h.mono k⟩
  · rw [List.getElem?_set_ne e] at h1
    have ne : a ≠ p := fun z => by
      subst z
      exact e (nu r.nd hp h2)
    exact (r.cel m c a h1 h2).mono k (aA ne)
theorem Ext.write {p : Addr} {o : HO} (hp : p ∈ ρ) : Ext ρ H ρ (upd H p o) :=
  ⟨⟨[], by simp⟩, fun _ h => .inl h, fun q u e n => by rw [aA (fun z => n (by rw [z]; exact hp))]; exact e⟩
theorem Ext.alloc {p : Addr} (h : H p = none) {o : HO} : Ext ρ H (ρ ++ [p]) (upd H p o) :=
  ⟨⟨[p], rfl⟩, fun a ha => by
    rcases List.mem_append.mp ha with q | q
    · exact .inl q
    · simp at q; subst q; exact .inr h, fun q u e _ => bF h q u e⟩
theorem RS.ext (r : RS K ρ H σd hd σ) (e : Ext ρ H ρ' H') (h : RH K ρ' H' hd') : RS K ρ' H' σd hd' σ := ⟨h, r.st.mono (r.hp.kp e)⟩
end
end Fm
set_option Elab.async false
set_option linter.all false
set_option maxRecDepth 100000
namespace Fm
open PySem PySem.Spec L2
abbrev VR (α β : Type) := List Addr → Hp → α → β → Prop
section
variable (K : PySem.W.Frag)
def bo {α β : Type} (R : VR α β) (ρ : List Addr) (H : Hp) (σd : Sd) (σ : St) (r : Res α) (Q : β → Hp → Prop) : Prop := match r with
  | .ok a hd' => ∀ b H' ρ', Ext ρ H ρ' H' → RS K ρ' H' σd hd' σ → R ρ' H' a b → Q b H'
  | _ => False
def jB {α β : Type} (R : VR α β) (f : Sd → Hd → Res α) : St → Hp → (β → Hp → Prop) → Prop := fun σ H Q =>
  ∃ ρ σd hd, RS K ρ H σd hd σ ∧ bo K R ρ H σd σ (f σd hd) Q
abbrev rD : VR D V := fun ρ H d v => RD K ρ H d v
abbrev rDs : VR (List D) (List V) := fun ρ H d v => RDs K ρ H d v
abbrev rB : VR Bool Bool := fun _ _ a b => a = b
abbrev rO : VR (Option Int) (Option Int) := fun _ _ a b => a = b
def rQ : VR (List D) V := fun ρ H l v => ∃ p vs, v = .ref p ∧ (SqL K H p vs ∨ H p = some (.tup vs)) ∧ RDs K ρ H l vs
def uO (ρ : List Addr) (H : Hp) (σd : Sd) (σ : St) (r : Res (List D)) (Q : VK) : Prop := match r with
  | .ok l hd' => ∀ q vs H' ρ', Ext ρ H ρ' H' → RS K ρ' H' σd hd' σ → H q = none → H' q = some (.lst vs) → q ∉ ρ' → RDs K ρ' H' l vs → Q (.ref q) H'
  | _ => False
def Ik (f : LF) : TE := fun σ H Q => ∃ ρ σd hd, RS K ρ H σd hd σ ∧ uO K ρ H σd σ (f σd hd) Q
def bN (ρ : List Addr) (H : Hp) (o : Out) (E : m4) : Prop := match o with
  | .nx σd hd => ∀ σ H' ρ', Ext ρ H ρ' H' → RS K ρ' H' σd hd σ → E.nx σ H'
  | .bk σd hd => ∀ σ H' ρ', Ext ρ H ρ' H' → RS K ρ' H' σd hd σ → E.bk σ H'
  | .ct σd hd => ∀ σ H' ρ', Ext ρ H ρ' H' → RS K ρ' H' σd hd σ → E.ct σ H'
  | .rt d hd => ∀ v H' ρ', Ext ρ H ρ' H' → RH K ρ' H' hd → RD K ρ' H' d v → E.rt v H'
  | _ => False
def FA (f : SF) : TS := fun E σ H => ∃ ρ σd hd, RS K ρ H σd hd σ ∧ bN K ρ H (f σd hd) E
end
def ME (X : Cx) (e : Expr) (f : EF) : Prop := PE X e (jB X.K (rD X.K) f)
def MQ (X : Cx) (e : Expr) (f : LF) : Prop := PE X e (jB X.K (rQ X.K) f)
def MF (X : Cx) (e : Expr) (f : LF) : Prop := PE X e (Ik X.K f)
def MT (X : Cx) (e : Expr) (f : TF) : Prop := PT X e (jB X.K rB f)
def MW (X : Cx) (e : Expr) (f : TF) : Prop := PW X e (jB X.K rB f)
def MA (X : Cx) (es : List Expr) (f : LF) : Prop := PA X es (jB X.K (rDs X.K) f)
def MS (X : Cx) (s : Stmt) (f : SF) : Prop := PS X s (FA X.K f)
def MSs (X : Cx) (s : List Stmt) (f : SF) : Prop := PSs X s (FA X.K f)
section
variable {X : Cx}
theorem PE.imp {e : Expr} {t u : TE} (h : PE X e t) (i : ∀ σ H Q, u σ H Q → t σ H Q) : PE X e u := fun pins s σ H Q I q => h pins s σ H Q I (i σ H Q q)
theorem PT.imp {e : Expr} {t u : TT} (h : PT X e t) (i : ∀ σ H Q, u σ H Q → t σ H Q) : PT X e u := fun pins s σ H Q I q => h pins s σ H Q I (i σ H Q q)
theorem PW.imp {e : Expr} {t u : TT} (h : PW X e t) (i : ∀ σ H Q, u σ H Q → t σ H Q) : PW X e u := fun w pins s σ H Q I q => h w pins s σ H Q I (i σ H Q q)
theorem PA.imp {e : List Expr} {t u : TA} (h : PA X e t) (i : ∀ σ H Q, u σ H Q → t σ H Q) : PA X e u := fun p pins s σ H Q I q => h p pins s σ H Q I (i σ H Q q)
theorem PS.imp {e : Stmt} {t u : TS} (h : PS X e t) (i : ∀ D σ H, u D σ H → t D σ H) : PS X e u := fun pins s σ H D I q => h pins s σ H D I (i D σ H q)
theorem PSs.imp {e : List Stmt} {t u : TS} (h : PSs X e t) (i : ∀ D σ H, u D σ H → t D σ H) : PSs X e u := fun pins s σ H D I q => h pins s σ H D I (i D σ H q)
end
section
variable {K : PySem.W.Frag} {ρ ρ' : List Addr} {H H' : Hp} {hd hd' : Hd} {σd : Sd} {σ : St} {α β α' β' : Type} {R : VR α β} {R' : VR α' β'}
theorem bo.here {a : α} {b : β} {Q : β → Hp → Prop} (h : bo K R ρ H σd σ (.ok a hd) Q) (r : RS K ρ H σd hd σ) (q : R ρ H a b) : Q b H := h b H ρ Ext.refl r q
theorem bo.at {a : α} {b : β} {Q : β → Hp → Prop} (h : bo K R ρ H σd σ (.ok a hd) Q) (e : Ext ρ H ρ' H') (r : RS K ρ' H' σd hd σ) (q : R ρ' H' a b) : Q b H' := h b H' ρ' e r q
theorem bo.imp {r : Res α} {Q Q' : β → Hp → Prop} (h : bo K R ρ H σd σ r Q) (i : ∀ b H', Q b H' → Q' b H') : bo K R ρ H σd σ r Q' := by
  cases r with
  | ok a h' => exact fun b H' ρ' e s q => i b H' (h b H' ρ' e s q)
  | exc x h' => exact h
  | bad => exact h
theorem bo.ext {r : Res α} {Q : β → Hp → Prop} (e : Ext ρ H ρ' H') (h : bo K R ρ H σd σ r Q) : bo K R ρ' H' σd σ r Q := by
  cases r with
  | ok a h' => exact fun b H'' ρ'' e' s q => h b H'' ρ'' (e.trans e') s q
  | exc x h' => exact h
  | bad => exact h
theorem bo.bind {r : Res α} {k : α → Hd → Res α'} {Q : β' → Hp → Prop} (h : bo K R' ρ H σd σ (r.bind k) Q) :
    bo K R ρ H σd σ r (fun b H' => ∃ ρ' a hd', Ext ρ H ρ' H' ∧ RS K ρ' H' σd hd' σ ∧ R ρ' H' a b ∧ bo K R' ρ' H' σd σ (k a hd') Q) := by
  cases r with
  | ok a h' => exact fun b H' ρ' e s q => ⟨ρ', a, h', e, s, q, bo.ext e h⟩
  | exc x h' => exact h
  | bad => exact h
theorem bN.ext {o : Out} {E : m4} (e : Ext ρ H ρ' H') (h : bN K ρ H o E) : bN K ρ' H' o E := by
  cases o with
  | nx σ h' => exact fun σ' H'' ρ'' e' s => h σ' H'' ρ'' (e.trans e') s
  | bk σ h' => exact fun σ' H'' ρ'' e' s => h σ' H'' ρ'' (e.trans e') s
  | ct σ h' => exact fun σ' H'' ρ'' e' s => h σ' H'' ρ'' (e.trans e') s
  | rt d h' => exact fun v H'' ρ'' e' s q => h v H'' ρ'' (e.trans e') s q
  | exc x σ h' => exact h
  | bad => exact h
end
section
variable {X : Cx} {pos : Pos}
theorem Gm {i : Nat} {x : Str} (hN : X.N[i]? = some x) (hv : Vis X.env.scope x) (hd : (x == ("__debug__" : Str)) = false := by decide) (hcd : (x == ("__classdict__" : Str)) = false := by decide) : ME X (.Name x pos) (aa i) := by
  refine PE.imp (BJ hN hv hd hcd) fun σ H Q ⟨ρ, σd, hd, r, h⟩ => ?_
  unfold aa at h
  cases e : slot σd i with
  | none => rw [e] at h; exact h.elim
  | some d =>
    rw [e] at h
    obtain ⟨v, h1, h2⟩ := r.st.at' i d e
    exact ⟨v, h1, h.here r h2⟩
theorem nv {K : PySem.W.Frag} {d : D} {v : V} (hv : ∀ ρ H, RD K ρ H d v) : ∀ σ H Q, jB K (rD K) (fC d) σ H Q → tC v σ H Q := fun _ H _ ⟨ρ, _, _, r, h⟩ => h.here r (hv ρ H)
theorem ah {i : Int} {j} : ME X (.Constant (.int i) j pos) (fC (.int i)) := PE.imp BK (nv fun _ _ => by simp only [RD])
theorem dU {b j} : ME X (.Constant (.bool b) j pos) (fC (.bl b)) := PE.imp HJ (nv fun _ _ => by simp only [RD])
theorem de {j} : ME X (.Constant .none j pos) (fC .non) := PE.imp FN (nv fun _ _ => by simp only [RD])
theorem iS {x : Str} {j} (l : List Nat) (h : x = toS l) : ME X (.Constant (.str x) j pos) (fC (.str l)) := PE.imp wD (nv fun _ _ => by simp only [RD]; rw [h])
theorem uP {x : Str} {i : Int} {t : Tok} (hg : Gl X x) (hm : X.mg x = some (.int i t)) (hd : (x == ("__debug__" : Str)) = false := by decide) : ME X (.Name x pos) (fC (.int i)) :=
  PE.imp (sH (v := .int i) hg hm ⟨t, rfl⟩ hd) (nv fun _ _ => by simp only [RD])
theorem me2 {a b : Expr} {fa fb : EF} {r : R2} {g : O2} {e : Expr} (h : PE X e (tOp r (jB X.K (rD X.K) fa) (jB X.K (rD X.K) fb)))
    (hg : ∀ ρ H σd hd σ d k v w Q, RS X.K ρ H σd hd σ → RD X.K ρ H d v → RD X.K ρ H k w → bo X.K (rD X.K) ρ H σd σ (g d k hd) Q → r v w H Q) : ME X e (aj g fa fb) := by
  refine PE.imp h fun σ H Q ⟨ρ, σd, hd, rs, p⟩ => ?_
  refine ⟨ρ, σd, hd, rs, (bo.bind (R := rD X.K) p).imp fun v H1 ⟨ρ1, d, hd1, e1, rs1, rv, p1⟩ => ?_⟩
  refine ⟨ρ1, σd, hd1, rs1, (bo.bind (R := rD X.K) p1).imp fun w H2 ⟨ρ2, k, hd2, e2, rs2, rw', p2⟩ => ?_⟩
  exact hg ρ2 H2 σd hd2 σ d k v w Q rs2 (rv.mono (rs1.hp.kp e2)) rw' p2
def Og (K : PySem.W.Frag) (g : O2) (r : R2) : Prop := ∀ ρ H σd hd σ d k v w Q, RS K ρ H σd hd σ → RD K ρ H d v → RD K ρ H k w → bo K (rD K) ρ H σd σ (g d k hd) Q → r v w H Q
theorem aF {a b : Expr} {fa fb : EF} {op : Operator} {r : R2} {g : O2} (ho : OpR X (binaryOp op) r) (hg : Og X.K g r) (ha : ME X a fa) (hb : ME X b fb) : ME X (.BinOp a op b pos) (aj g fa fb) :=
  me2 (a := a) (b := b) (BU ho ha hb) hg
theorem ge {a b : Expr} {fa fb : EF} {op : CmpOp} {r : R2} {g : O2} (ho : OpR X (compareOp op) r) (hg : Og X.K g r) (ha : ME X a fa) (hb : ME X b fb) (hm : behindInMarks op b = false) : ME X (.Compare a [op] [b] pos) (aj g fa fb) :=
  me2 (a := a) (b := b) (D4 ho ha hb hm) hg
theorem B7 {K : PySem.W.Frag} {g : Int → Int → Int} : Og K (oI g) (rI0 fun i j => .int (g i j)) := by
  intro ρ H σd hd σ d k v w Q rs rv rw' p
  cases d <;> cases k <;> first | exact p.elim | skip
  simp only [RD] at rv rw'
  exact ⟨_, _, rv, rw', p.here rs (by simp only [rD, RD])⟩
theorem z8 {K : PySem.W.Frag} {g : Int → Int → Bool} : Og K (oB g) (rI0 fun i j => .bl (g i j)) := by
  intro ρ H σd hd σ d k v w Q rs rv rw' p
  cases d <;> cases k <;> first | exact p.elim | skip
  simp only [RD] at rv rw'
  exact ⟨_, _, rv, rw', p.here rs (by simp only [rD, RD])⟩
theorem ze {K : PySem.W.Frag} {c : Int → Int → Bool} {C : Int → Int → Prop} {g : Int → Int → Int} (hc : ∀ i j, c i j = true → C i j) : Og K (oIc c g) (rI C fun i j => .int (g i j)) := by
  intro ρ H σd hd σ d k v w Q rs rv rw' p
  cases d <;> cases k <;> first | exact p.elim | skip
  rename_i i j
  simp only [RD] at rv rw'
  cases e : c i j with
  | false => simp only [oIc, e] at p; exact p.elim
  | true =>
    simp only [oIc, e, if_true] at p
    exact ⟨i, j, rv, rw', hc i j e, p.here rs (by simp only [rD, RD])⟩
theorem sU {i : Int} (h : sml i = true) : -(2 ^ 64) < i ∧ i < 2 ^ 64 := by
  simp only [sml, Bool.and_eq_true, decide_eq_true_eq] at h; exact h
theorem hV {K : PySem.W.Frag} : Og K g9 (rI D3 fun i j => .int (i * j)) := ze fun i j h => by
  rcases (Bool.or_eq_true _ _).mp h with q | q
  · exact .inl (sU q)
  · exact .inr (sU q)
theorem cZ {K : PySem.W.Frag} : Og K cE (rI (fun _ j => 0 < j) fun i j => .int (i % j)) := ze fun i j h => of_decide_eq_true h
def Im (_ j : Int) : Prop := 0 < j ∧ j < 2 ^ 250
theorem ef : OpR X (binaryOp .FloorDiv) (rI Im fun i j => .int (i / j)) := opI fun i j _ _ _ _ _ hc q => by
  have h0 : j ≠ 0 := by have := hc.1; omega
  refine PyProof.Rows.floordiv_int h0 (by rw [Int.fdiv_eq_ediv_of_nonneg _ (Int.le_of_lt hc.1)]; exact q) (.inl (PyProof.noPylong_of_log2 ?_))
  have h2 : j.natAbs < 2 ^ 250 := by have := hc.2; have := hc.1; omega
  have h3 : j.natAbs ≠ 0 := by omega
  have := (Nat.log2_lt h3).mpr h2
  omega
theorem hW {K : PySem.W.Frag} : Og K eU (rI Im fun i j => .int (i / j)) := ze fun i j h => by
  simp only [Bool.and_eq_true, decide_eq_true_eq] at h; exact h
theorem B8 {K : PySem.W.Frag} : Og K z7 (rI HW fun i j => .int (i ^ j.toNat)) := ze fun i j h => by
  simp only [Bool.and_eq_true, decide_eq_true_eq] at h
  have := sU h.2
  exact ⟨h.1.1, h.1.2, by omega⟩
theorem sV {K : PySem.W.Frag} {ρ : List Addr} {H : Hp} {d : D} {v : V} (h : RD K ρ H d v) : jM d = decide (v = .non) := by
  cases d <;> simp only [RD] at h
  · subst h; rfl
  · subst h; rfl
  · subst h; rfl
  · subst h; rfl
  · obtain ⟨p, vs, rfl, _⟩ := h; rfl
  · obtain ⟨p, vs, rfl⟩ := h; rfl
  · obtain ⟨p, vs, rfl, _⟩ := h; rfl
  · obtain ⟨_, p, vs, rfl, _⟩ := h; rfl
theorem sW {K : PySem.W.Frag} : Og K nj (fun x y H Q => y = .non ∧ Q (.bl (decide (x = .non))) H) := by
  intro ρ H σd hd σ d k v w Q rs rv rw' p
  unfold nj at p
  cases e : jM k with
  | false => rw [e] at p; exact p.elim
  | true =>
    rw [e, if_pos rfl] at p
    refine ⟨of_decide_eq_true ((sV rw').symm.trans e), ?_⟩
    rw [← sV rv]
    exact p.here rs (by simp only [rD, RD])
theorem jd {K : PySem.W.Frag} : Og K ee (fun x y H Q => y = .non ∧ Q (.bl (!decide (x = .non))) H) := by
  intro ρ H σd hd σ d k v w Q rs rv rw' p
  unfold ee at p
  cases e : jM k with
  | false => rw [e] at p; exact p.elim
  | true =>
    rw [e, if_pos rfl] at p
    refine ⟨of_decide_eq_true ((sV rw').symm.trans e), ?_⟩
    rw [← sV rv]
    exact p.here rs (by simp only [rD, RD])
theorem lx {K : PySem.W.Frag} {ρ : List Addr} {H : Hp} {σd : Sd} {σ : St} {r : Res D} {Q : Bool → Hp → Prop} (h : bo K rB ρ H σd σ (asB r) Q) : bo K (rD K) ρ H σd σ r (fun x H' => ∃ c, x = .bl c ∧ Q c H') := by
  refine (bo.bind (R := rD K) h).imp fun v H1 ⟨ρ1, d, hd1, e1, rs1, rv, p1⟩ => ?_
  cases d <;> first | exact p1.elim | skip
  simp only [rD, RD] at rv
  exact ⟨_, rv, p1.here rs1 rfl⟩
theorem cJ {e : Expr} {f : EF} (h : ME X e f) (he : ∀ whole, isTrue e X.env whole = (do let v ← whole; standAt e.pos; holding [v] (truthy v)) := by intro _; rfl) : MT X e (tE f) :=
  PT.imp (FO h he) fun σ H Q ⟨ρ, σd, hd, rs, p⟩ => ⟨ρ, σd, hd, rs, lx p⟩
theorem bi {a b : Expr} {fa fb : EF} {op : CmpOp} {r : R2} {g : O2} (ho : OpR X (compareOp op) r) (hg : Og X.K g r) (ha : ME X a fa) (hb : ME X b fb) (hm : behindInMarks op b = false) : MT X (.Compare a [op] [b] pos) (tE (aj g fa fb)) := by
  refine PT.imp (D5 ho ha hb hm) fun σ H Q ⟨ρ, σd, hd, rs, p⟩ => ?_
  have p := lx p
  refine ⟨ρ, σd, hd, rs, (bo.bind (R := rD X.K) p).imp fun v H1 ⟨ρ1, d, hd1, e1, rs1, rv, p1⟩ => ?_⟩
  refine ⟨ρ1, σd, hd1, rs1, (bo.bind (R := rD X.K) p1).imp fun w H2 ⟨ρ2, k, hd2, e2, rs2, rw', p2⟩ => ?_⟩
  exact hg ρ2 H2 σd hd2 σ d k v w _ rs2 (rv.mono (rs1.hp.kp e2)) rw' p2
theorem dB {a : Expr} {t : TF} (h : MT X a t) : MT X (.UnaryOp .Not a pos) (cH t) := by
  refine PT.imp (FR h) fun σ H Q ⟨ρ, σd, hd, rs, p⟩ => ⟨ρ, σd, hd, rs, (bo.bind (R := rB) p).imp fun c H1 ⟨ρ1, d, hd1, e1, rs1, rv, p1⟩ => ?_⟩
  cases rv
  exact p1.here rs1 rfl
theorem eO {op a} {t : TF} (h : MT X a t) (ho : op = BoolOp.And ∨ op = BoolOp.Or) : MW X (.BoolOp op [a] pos) t := by
  rcases ho with rfl | rfl
  · exact D0 h
  · exact FP h
theorem wM {a b : Expr} {rest : List Expr} {t u : TF} (ha : MT X a t) (hb : MW X (.BoolOp .And (b :: rest) pos) u) : MW X (.BoolOp .And (a :: b :: rest) pos) (fY t u) := by
  refine PW.imp (FQ ha hb) fun σ H Q ⟨ρ, σd, hd, rs, p⟩ => ⟨ρ, σd, hd, rs, (bo.bind (R := rB) p).imp fun c H1 ⟨ρ1, d, hd1, e1, rs1, rv, p1⟩ => ?_⟩
  cases rv
  cases c with
  | true => simp only [if_true] at p1 ⊢; exact ⟨ρ1, σd, hd1, rs1, p1⟩
  | false => simp only [Bool.false_eq_true, if_false] at p1 ⊢; exact p1.here rs1 rfl
theorem kx {a b : Expr} {rest : List Expr} {t u : TF} (ha : MT X a t) (hb : MW X (.BoolOp .Or (b :: rest) pos) u) : MW X (.BoolOp .Or (a :: b :: rest) pos) (tOr t u) := by
  refine PW.imp (HK ha hb) fun σ H Q ⟨ρ, σd, hd, rs, p⟩ => ⟨ρ, σd, hd, rs, (bo.bind (R := rB) p).imp fun c H1 ⟨ρ1, d, hd1, e1, rs1, rv, p1⟩ => ?_⟩
  cases rv
  cases c with
  | true => simp only [if_true] at p1 ⊢; exact p1.here rs1 rfl
  | false => simp only [Bool.false_eq_true, if_false] at p1 ⊢; exact ⟨ρ1, σd, hd1, rs1, p1⟩
theorem MW.mt {e : Expr} {t : TF} (h : MW X e t) : MT X e t := h.pt
theorem Eg {K : PySem.W.Frag} {t : TF} {σ : St} {H : Hp} {Q : VK} (h : jB K (rD K) (fT t) σ H Q) : jB K rB t σ H (fun b H' => Q (.bl b) H') := by
  obtain ⟨ρ, σd, hd, rs, p⟩ := h
  refine ⟨ρ, σd, hd, rs, (bo.bind (R := rB) p).imp fun c H1 ⟨ρ1, d, hd1, e1, rs1, rv, p1⟩ => ?_⟩
  cases rv
  exact p1.here rs1 (by simp only [rD, RD])
def MB (X : Cx) (e : Expr) (t : TF) : Prop := PE X e (fun σ H Q => jB X.K rB t σ H fun b H' => Q (.bl b) H')
theorem MB.me {e : Expr} {t : TF} (h : MB X e t) : ME X e (fT t) := PE.imp h fun _ _ _ q => Eg q
theorem fA {e : Expr} {f : EF} (h : ME X e f) : MB X e (tE f) := by
  refine PE.imp h fun σ H Q ⟨ρ, σd, hd, rs, p⟩ => ⟨ρ, σd, hd, rs, (lx p).imp ?_⟩
  rintro v H1 ⟨c, rfl, q⟩
  exact q
theorem j2 {op a} {t : TF} (h : MB X a t) : MB X (.BoolOp op [a] pos) t := FS h
theorem ly {a b : Expr} {rest : List Expr} {t u : TF} (ha : MB X a t) (hb : MB X (.BoolOp .And (b :: rest) pos) u) : MB X (.BoolOp .And (a :: b :: rest) pos) (fY t u) := by
  refine PE.imp (FT ha hb) fun σ H Q ⟨ρ, σd, hd, rs, p⟩ => ⟨ρ, σd, hd, rs, (bo.bind (R := rB) p).imp fun c H1 ⟨ρ1, d, hd1, e1, rs1, rv, p1⟩ => ⟨c, rfl, ?_⟩⟩
  cases rv
  cases c with
  | true => simp only [if_true] at p1 ⊢; exact ⟨ρ1, σd, hd1, rs1, p1⟩
  | false => simp only [Bool.false_eq_true, if_false] at p1 ⊢; exact p1.here rs1 rfl
theorem FC {a b : Expr} {rest : List Expr} {t u : TF} (ha : MB X a t) (hb : MB X (.BoolOp .Or (b :: rest) pos) u) : MB X (.BoolOp .Or (a :: b :: rest) pos) (tOr t u) := by
  refine PE.imp (HN ha hb) fun σ H Q ⟨ρ, σd, hd, rs, p⟩ => ⟨ρ, σd, hd, rs, (bo.bind (R := rB) p).imp fun c H1 ⟨ρ1, d, hd1, e1, rs1, rv, p1⟩ => ⟨c, rfl, ?_⟩⟩
  cases rv
  cases c with
  | true => simp only [if_true] at p1 ⊢; exact p1.here rs1 rfl
  | false => simp only [Bool.false_eq_true, if_false] at p1 ⊢; exact ⟨ρ1, σd, hd1, rs1, p1⟩
theorem Gn {a : Expr} {t : TF} (h : MB X a t) : MB X (.UnaryOp .Not a pos) (cH t) := by
  refine PE.imp (FU h) fun σ H Q ⟨ρ, σd, hd, rs, p⟩ => ⟨ρ, σd, hd, rs, (bo.bind (R := rB) p).imp fun c H1 ⟨ρ1, d, hd1, e1, rs1, rv, p1⟩ => ⟨c, rfl, ?_⟩⟩
  cases rv
  exact p1.here rs1 rfl
theorem Io {c a b : Expr} {t : TF} {fa fb : EF} (hc : MT X c t) (ha : ME X a fa) (hb : ME X b fb) : ME X (.IfExp c a b pos) (fIf t fa fb) := by
  refine PE.imp (BM hc ha hb) fun σ H Q ⟨ρ, σd, hd, rs, p⟩ => ⟨ρ, σd, hd, rs, (bo.bind (R := rB) p).imp fun c H1 ⟨ρ1, d, hd1, e1, rs1, rv, p1⟩ => ?_⟩
  cases rv
  cases c with
  | true => simp only [if_true] at p1 ⊢; exact ⟨ρ1, σd, hd1, rs1, p1⟩
  | false => simp only [Bool.false_eq_true, if_false] at p1 ⊢; exact ⟨ρ1, σd, hd1, rs1, p1⟩
end
end Fm
set_option Elab.async false
set_option linter.all false
set_option maxRecDepth 100000
namespace Fm
open PySem PySem.Spec L2
section
variable {X : Cx} {pos : Pos}
theorem wN {K : PySem.W.Frag} {ρ : List Addr} {H : Hp} {σd : Sd} {hd : Hd} {σ : St} {r r' : R2} {g k : O2} {fa fb fc : EF} {Q : VK} (hg : Og K g r) (hk : Og K k r') (rs : RS K ρ H σd hd σ)
    (p : bo K (rD K) ρ H σd σ (nr g k fa fb fc σd hd) Q) : BX r r' (jB K (rD K) fa) (jB K (rD K) fb) (jB K (rD K) fc) σ H Q := by
  refine ⟨ρ, σd, hd, rs, (bo.bind (R := rD K) p).imp fun v H1 ⟨ρ1, d, hd1, e1, rs1, rv, p1⟩ => ?_⟩
  refine ⟨ρ1, σd, hd1, rs1, (bo.bind (R := rD K) p1).imp fun w H2 ⟨ρ2, d2, hd2, e2, rs2, rw2, p2⟩ => ?_⟩
  refine hg ρ2 H2 σd hd2 σ d d2 v w _ rs2 (rv.mono (rs1.hp.kp e2)) rw2 ((bo.bind (R := rD K) p2).imp fun z H3 ⟨ρ3, d3, hd3, e3, rs3, rz, p3⟩ => ?_)
  cases d3 <;> first | exact p3.elim | skip
  rename_i b
  simp only [rD, RD] at rz
  refine ⟨b, rz, ?_⟩
  cases b with
  | false =>
    rw [if_neg Bool.false_ne_true]
    exact p3.here rs3 (by simp only [rD, RD])
  | true =>
    rw [if_pos rfl]
    refine ⟨ρ3, σd, hd3, rs3, (bo.bind (R := rD K) p3).imp fun u H4 ⟨ρ4, d4, hd4, e4, rs4, ru, p4⟩ => ?_⟩
    exact hk ρ4 H4 σd hd4 σ d2 d4 w u Q rs4 ((rw2.mono (rs2.hp.kp e3)).mono (rs3.hp.kp e4)) ru p4
theorem B9 {a b c : Expr} {fa fb fc : EF} {op op' : CmpOp} {r r' : R2} {g k : O2} (ho : OpR X (compareOp op) r) (ho' : OpR X (compareOp op') r') (hg : Og X.K g r) (hk : Og X.K k r') (ha : ME X a fa) (hb : ME X b fb) (hc : ME X c fc)
    (hm : lastMarks [op, op'] [b, c] = false := by with_unfolding_all rfl) : ME X (.Compare a [op, op'] [b, c] pos) (nr g k fa fb fc) :=
  PE.imp (BY ho ho' ha hb hc hm) fun _ _ _ ⟨_, _, _, rs, p⟩ => wN hg hk rs p
theorem aq : MA X [] ao := PA.imp c9 fun _ _ _ ⟨_, _, _, rs, p⟩ => p.here rs RDs.nil
theorem ae {e : Expr} {es : List Expr} {f : EF} {r : LF} (he : ME X e f) (hr : MA X es r) (hs : starEach (e :: es) X.env = (false, eval e X.env) :: starEach es X.env := by rfl) : MA X (e :: es) (ad f r) := by
  refine PA.imp (bD he hr hs) fun σ H Q ⟨ρ, σd, hd, rs, p⟩ => ?_
  refine ⟨ρ, σd, hd, rs, (bo.bind (R := rD X.K) p).imp fun v H1 ⟨ρ1, d, hd1, e1, rs1, rv, p1⟩ => ?_⟩
  refine ⟨ρ1, σd, hd1, rs1, (bo.bind (R := rDs X.K) p1).imp fun vs H2 ⟨ρ2, ds, hd2, e2, rs2, rvs, p2⟩ => ?_⟩
  exact p2.here rs2 (RDs.cons (rv.mono (rs1.hp.kp e2)) rvs)
theorem ky {n : Nat} (h : n ≤ SZ) : n ≤ sizeLine := Nat.le_trans h (by show 1000000 ≤ 2 ^ 24; decide)
theorem dL {es : List Expr} {k} {r : LF} (h : MA X es r) : ME X (.Tuple es k pos) (cj r) := by
  refine PE.imp (BZ h) fun σ H Q ⟨ρ, σd, hd, rs, p⟩ => ?_
  refine ⟨ρ, σd, hd, rs, (bo.bind (R := rDs X.K) p).imp fun vs H1 ⟨ρ1, ds, hd1, e1, rs1, rvs, p1⟩ => ?_⟩
  by_cases hz : ds.length ≤ SZ
  · rw [if_pos hz] at p1
    refine ⟨by rw [← rvs.length]; exact ky hz, fun q hq => ?_⟩
    have sm := bF (o := HO.tup vs) hq
    exact p1.at (Ext.same sm) (rs1.same sm) (by simp only [rD, RD]; exact ⟨q, vs, rfl, aT, rvs.mono (Kp.same sm)⟩)
  · rw [if_neg hz] at p1; exact p1.elim
theorem Ext.fresh {ρ ρ' : List Addr} {H H' : Hp} {q : Addr} (e : Ext ρ H ρ' H') (h : H' q = none) (n : q ∉ ρ') : H q = none := by
  cases z : H q with
  | none => rfl
  | some o =>
    by_cases hq : q ∈ ρ
    · obtain ⟨t, rfl⟩ := e.pre
      exact absurd (List.mem_append_left t hq) n
    · rw [e.frame q o z hq] at h; cases h
theorem RH.free {K : PySem.W.Frag} {ρ : List Addr} {H : Hp} {hd : Hd} (r : RH K ρ H hd) {q : Addr} (h : H q = none) : q ∉ ρ := fun z => by
  rcases r.mut z with ⟨_, e⟩ | ⟨_, e⟩ <;> (rw [h] at e; cases e)
theorem uO.mk {K : PySem.W.Frag} {ρ ρ1 : List Addr} {H H1 : Hp} {hd1 : Hd} {σd : Sd} {σ : St} {l : List D} {vs : List V} {Q : VK} (p : uO K ρ H σd σ (.ok l hd1) Q) (e1 : Ext ρ H ρ1 H1) (rs1 : RS K ρ1 H1 σd hd1 σ) (r : RDs K ρ1 H1 l vs) :
    ∀ q, H1 q = none → Q (.ref q) (upd H1 q (.lst vs)) := fun q hq => by
  have sm := bF (o := HO.lst vs) hq
  have nq := rs1.hp.free hq
  exact p q vs _ ρ1 (e1.trans (Ext.same sm)) (rs1.same sm) (e1.fresh hq nq) aT nq (r.mono (Kp.same sm))
theorem cK {es : List Expr} {r : LF} (h : MA X es r) (hz : ∀ σd hd ds hd', r σd hd = .ok ds hd' → ds.length ≤ SZ) : MF X (.List es pos) r := by
  refine PE.imp (F8 h) fun σ H Q ⟨ρ, σd, hd, rs, p⟩ => ?_
  refine ⟨ρ, σd, hd, rs, ?_⟩
  cases e : r σd hd with
  | exc x h' => rw [e] at p; exact p
  | bad => rw [e] at p; exact p
  | ok ds hd1 =>
    rw [e] at p
    intro vs H1 ρ1 e1 rs1 rvs
    exact ⟨by rw [← RDs.length rvs]; exact ky (hz _ _ _ _ e), p.mk e1 rs1 rvs⟩
theorem ay {f : EF} {r : LF} {n : Nat} (h : ∀ σd hd ds hd', r σd hd = .ok ds hd' → ds.length = n) : ∀ σd hd ds hd', ad f r σd hd = .ok ds hd' → ds.length = n + 1 := by
  intro σd hd ds hd' e
  simp only [ad] at e
  cases e1 : f σd hd with
  | exc x h' => rw [e1] at e; cases e
  | bad => rw [e1] at e; cases e
  | ok d h1 =>
    rw [e1] at e
    simp only [aI] at e
    cases e2 : r σd h1 with
    | exc x h' => rw [e2] at e; cases e
    | bad => rw [e2] at e; cases e
    | ok ds2 h2 =>
      rw [e2] at e
      simp only [aI] at e
      cases e
      simp [h _ _ _ _ e2]
theorem bG : ∀ σd hd ds hd', ao σd hd = .ok ds hd' → ds.length = 0 := by
  intro σd hd ds hd' e
  simp only [ao] at e
  cases e
  rfl
theorem eg {e : Expr} {r : LF} (h : MF X e r) : ME X e (cy r) := by
  refine PE.imp h fun σ H Q ⟨ρ, σd, hd, rs, p⟩ => ⟨ρ, σd, hd, rs, ?_⟩
  unfold cy at p
  cases e : r σd hd with
  | exc x h' => rw [e] at p; exact p
  | bad => rw [e] at p; exact p
  | ok ds hd1 =>
    rw [e] at p
    simp only [aI] at p
    intro q vs H1 ρ1 e1 rs1 hq0 hq hn rvs
    by_cases hz : ds.length ≤ SZ
    · rw [if_pos hz] at p
      have rh := rs1.hp.alloc hq hn rvs
      have ex : Ext ρ H (ρ1 ++ [q]) H1 := ⟨by obtain ⟨t, rfl⟩ := e1.pre; exact ⟨t ++ [q], by simp⟩, fun a ha => by
        rcases List.mem_append.mp ha with z | z
        · exact e1.new a z
        · simp at z; subst z; exact .inr hq0, e1.frame⟩
      refine p.at ex (rs.ext ex rh) ?_
      simp only [rD, RD]
      refine ⟨q, ?_, rfl⟩
      rw [← rs1.hp.len]
      simp
    · rw [if_neg hz] at p; exact p.elim
theorem fB {e : Expr} {r : LF} (h : MF X e r) : MQ X e r := by
  refine PE.imp h fun σ H Q ⟨ρ, σd, hd, rs, p⟩ => ⟨ρ, σd, hd, rs, ?_⟩
  cases e : r σd hd with
  | exc x h' => rw [e] at p; exact p
  | bad => rw [e] at p; exact p
  | ok ds hd1 =>
    rw [e] at p
    intro q vs H1 ρ1 e1 rs1 hq0 hq hn rvs
    exact p (.ref q) H1 ρ1 e1 rs1 ⟨q, vs, rfl, .inl (SqL.of hq), rvs⟩
theorem mf.sq {K : PySem.W.Frag} {H : Hp} {a : Addr} {xs : List V} (h : mf K H a xs) : SqL K H a xs := by
  rcases h with ⟨o, h⟩ | h
  · exact .inl (.inr ⟨o, h⟩)
  · exact .inr h
theorem zf {K : PySem.W.Frag} {ρ : List Addr} {H : Hp} {hd : Hd} {d : D} {v : V} {l : List D} (r : RH K ρ H hd) (h : RD K ρ H d v) (e : jN hd d = some l) : ∃ p vs, v = .ref p ∧ (SqL K H p vs ∨ H p = some (.tup vs)) ∧ RDs K ρ H l vs := by
  cases d <;> simp only [jN] at e <;> try (cases e; done)
  · cases e
    simp only [RD] at h
    obtain ⟨p, vs, e1, e2, e3⟩ := h
    exact ⟨p, vs, e1, .inr e2, e3⟩
  · rename_i n
    simp only [RD] at h
    obtain ⟨a, e1, e2⟩ := h
    cases c : hd[n]? with
    | none => rw [c] at e; cases e
    | some x =>
      rw [c] at e
      cases x with
      | dct l => cases e
      | lst l' =>
        cases e
        obtain ⟨vs, q1, q2⟩ := r.cel n _ a c e1
        exact ⟨a, vs, e2, .inl (SqL.of q1), q2⟩
  · cases e
    simp only [RD] at h
    obtain ⟨p, vs, e1, e2, e3⟩ := h
    exact ⟨p, vs, e1, .inl e2.sq, e3⟩
theorem eM {e : Expr} {f : EF} (h : ME X e f) : MQ X e (lOf f) := by
  refine PE.imp h fun σ H Q ⟨ρ, σd, hd, rs, p⟩ => ⟨ρ, σd, hd, rs, (bo.bind (R := rD X.K) p).imp fun v H1 ⟨ρ1, d, hd1, e1, rs1, rv, p1⟩ => ?_⟩
  cases e : jN hd1 d with
  | none => rw [e] at p1; exact p1.elim
  | some l => rw [e] at p1; exact p1.here rs1 (zf rs1.hp rv e)
theorem zg {K : PySem.W.Frag} {ρ : List Addr} {H : Hp} {l : List D} {vs : List V} {i : Int} {d : D} (r : RDs K ρ H l vs) (e : atI l i = some d) : ∃ v, L2.atI vs i = some v ∧ RD K ρ H d v := by
  unfold atI at e
  unfold L2.atI
  have hl := r.length
  have hx : ixN l.length i = L2.ixN vs.length i := by rw [hl]; rfl
  rw [hx] at e
  cases c : L2.ixN vs.length i with
  | none => rw [c] at e; cases e
  | some j =>
    rw [c] at e
    simp only [Option.bind_some] at e ⊢
    exact r.get e
theorem bu {a b : Expr} {fa fb : EF} (ha : ME X a fa) (hb : ME X b fb) (hs : sO b) : ME X (.Subscript a b pos) (fAt fa fb) := by
  refine me2 (a := a) (b := b) (g := oAt) (Fz Gf ha hb hs) fun ρ H σd hd σ d k v w Q rs rv rw' p => ?_
  unfold oAt at p
  cases e : jN hd d with
  | none => rw [e] at p; exact p.elim
  | some l =>
    rw [e] at p
    cases k <;> first | exact p.elim | skip
    rename_i i
    simp only at p
    cases e2 : atI l i with
    | none => rw [e2] at p; exact p.elim
    | some x =>
      rw [e2] at p
      simp only [RD] at rw'
      obtain ⟨q, vs, hv, sq, rvs⟩ := zf rs.hp rv e
      obtain ⟨u, hu, ru⟩ := zg rvs e2
      rcases sq with sq | sq
      · exact .inl ⟨q, vs, i, u, hv, rw', sq, hu, p.here rs ru⟩
      · exact .inr (.inl ⟨q, vs, i, u, hv, rw', SqT.of sq, hu, p.here rs ru⟩)
theorem mh {a b : Expr} {la : LF} {fb : EF} (ha : MF X a la) (hb : ME X b fb) (hs : sO b) : ME X (.Subscript a b pos) (fIx la fb) := by
  refine PE.imp (Fz zc ha hb hs) fun σ H Q ⟨ρ, σd, hd, rs, p⟩ => ⟨ρ, σd, hd, rs, ?_⟩
  unfold fIx at p
  cases e : la σd hd with
  | exc x h' => rw [e] at p; exact p
  | bad => rw [e] at p; exact p
  | ok l hd1 =>
    rw [e] at p
    simp only [aI] at p
    intro q vs H1 ρ1 e1 rs1 hq0 hq hn rvs
    refine ⟨ρ1, σd, hd1, rs1, (bo.bind (R := rD X.K) (p.ext e1)).imp fun w H2 ⟨ρ2, k, hd2, e2, rs2, rw', p2⟩ => ?_⟩
    cases k <;> first | exact p2.elim | skip
    rename_i i
    simp only at p2
    cases e3 : atI l i with
    | none => rw [e3] at p2; exact p2.elim
    | some x =>
      rw [e3] at p2
      simp only [rD, RD] at rw'
      obtain ⟨u, hu, ru⟩ := zg (rvs.mono (rs1.hp.kp e2)) e3
      exact ⟨q, vs, i, u, rfl, rw', SqL.of (e2.frame q _ hq hn), hu, p2.here rs2 ru⟩
end
end Fm
set_option Elab.async false
set_option linter.all false
set_option maxRecDepth 100000
namespace Fm
open PySem PySem.Spec L2
section
variable {X : Cx} {pos : Pos}
def B1 (X : Cx) (r : List V → Hp → VK → Prop) (x : Str) (p pos : Pos) (a : Expr) : Prop := ∀ t, PA X [a] t → PE X (.Call (.Name x p) [a] [] pos) (tCB r t)
theorem Ca {x : Str} {p : Pos} {a : Expr} {id : String} {r : List V → Hp → VK → Prop} (hc : eR X (.builtin id) r) (hg : Gl X x) (hm : X.mg x = none) (hv : bootBuiltins x = some (.builtin id)) (hn : x ≠ "__name__" := by decide) (hdb : (x == ("__debug__" : Str)) = false := by decide)
    (he : starEach [a] X.env = (false, eval a X.env) :: starEach [] X.env := by rfl) : B1 X r x p pos a := fun _ ha => gu hc hg hm hv ha hn hdb he
theorem Cb {x : Str} {p : Pos} {a : Expr} {T : String} {r : List V → Hp → VK → Prop} (hc : eR X (.type T) r) (hg : Gl X x) (hm : X.mg x = none) (hv : bootBuiltins x = some (.type T)) (hn : x ≠ "__name__" := by decide) (hdb : (x == ("__debug__" : Str)) = false := by decide)
    (he : starEach [a] X.env = (false, eval a X.env) :: starEach [] X.env := by rfl) : B1 X r x p pos a := fun _ ha => rj hc hg hm hv ha hn hdb he
theorem sX {x : Str} {p : Pos} {a : Expr} {la : LF} {r : List V → Hp → VK → Prop} {g : List D → Hd → Res D} (hb : B1 X r x p pos a) (ha : MQ X a la)
    (hg : ∀ ρ H σd hd σ l q vs Q, RS X.K ρ H σd hd σ → (SqL X.K H q vs ∨ H q = some (.tup vs)) → RDs X.K ρ H l vs → bo X.K (rD X.K) ρ H σd σ (g l hd) Q → r [.ref q] H Q)
    (hs : starEach [a] X.env = (false, eval a X.env) :: starEach [] X.env := by rfl) : ME X (.Call (.Name x p) [a] [] pos) (fun σ h => (la σ h).bind fun l h => g l h) := by
  refine PE.imp (hb _ (bD ha c9 hs)) fun σ H Q ⟨ρ, σd, hd, rs, pp⟩ => ⟨ρ, σd, hd, rs, (bo.bind (R := rQ X.K) pp).imp fun v H1 ⟨ρ1, l, hd1, e1, rs1, ⟨q, vs, hv, sq, rvs⟩, p1⟩ => ?_⟩
  subst hv
  exact hg ρ1 H1 σd hd1 σ l q vs Q rs1 sq rvs p1
theorem FD {x : Str} {p : Pos} {a : Expr} {fa : EF} {r : List V → Hp → VK → Prop} {g : D → Hd → Res D} (hb : B1 X r x p pos a) (ha : ME X a fa)
    (hg : ∀ ρ H σd hd σ d v Q, RS X.K ρ H σd hd σ → RD X.K ρ H d v → bo X.K (rD X.K) ρ H σd σ (g d hd) Q → r [v] H Q)
    (hs : starEach [a] X.env = (false, eval a X.env) :: starEach [] X.env := by rfl) : ME X (.Call (.Name x p) [a] [] pos) (fun σ h => (fa σ h).bind fun x h => g x h) := by
  refine PE.imp (hb _ (bD ha c9 hs)) fun σ H Q ⟨ρ, σd, hd, rs, pp⟩ => ⟨ρ, σd, hd, rs, (bo.bind (R := rD X.K) pp).imp fun v H1 ⟨ρ1, d, hd1, e1, rs1, rv, p1⟩ => ?_⟩
  exact hg ρ1 H1 σd hd1 σ d v Q rs1 rv p1
theorem eh {p : Pos} {a : Expr} {la : LF} (hg : Gl X "len") (hm : X.mg "len" = none) (ha : MQ X a la) (hs : starEach [a] X.env = (false, eval a X.env) :: starEach [] X.env := by rfl) : ME X (.Call (.Name "len" p) [a] [] pos) (dA la) :=
  sX (g := fun l h => .ok (.int l.length) h) (Ca sQ hg hm PySem.boot_len (he := hs)) ha (fun ρ H σd hd σ l q vs Q rs sq rvs p => ⟨q, vs, rfl, sq.imp id SqT.of, by rw [← rvs.length]; exact p.here rs (by simp only [rD, RD])⟩) hs
theorem fR {p : Pos} {a : Expr} {la : LF} (hg : Gl X "tuple") (hm : X.mg "tuple" = none) (ha : MQ X a la) (hs : starEach [a] X.env = (false, eval a X.env) :: starEach [] X.env := by rfl) : ME X (.Call (.Name "tuple" p) [a] [] pos) (dQ la) := by
  refine sX (g := fun l h => .ok (.tup l) h) (Cb pi hg hm (by decide +kernel) (he := hs)) ha (fun ρ H σd hd σ l q vs Q rs sq rvs p => ⟨q, vs, rfl, ?_⟩) hs
  rcases sq with sq | sq
  · refine .inl ⟨sq, fun q' hq => ?_⟩
    have sm := bF (o := HO.tup vs) hq
    exact p.at (Ext.same sm) (rs.same sm) (by simp only [rD, RD]; exact ⟨q', vs, rfl, aT, rvs.mono (Kp.same sm)⟩)
  · exact .inr ⟨SqT.of sq, p.here rs (by simp only [rD, RD]; exact ⟨q, vs, rfl, sq, rvs⟩)⟩
theorem Eh {p : Pos} {a : Expr} {fa : EF} (hg : Gl X "int") (hm : X.mg "int" = none) (ha : ME X a fa) (hs : starEach [a] X.env = (false, eval a X.env) :: starEach [] X.env := by rfl) : ME X (.Call (.Name "int" p) [a] [] pos) (Ef fa) := by
  refine FD (g := fun x h => match x with | .int i => .ok (.int i) h | .bl b => .ok (.int (b2i b)) h | _ => .bad) (Cb zY hg hm (by decide +kernel) (he := hs)) ha (fun ρ H σd hd σ d v Q rs rv p => ?_) hs
  cases d <;> first | exact p.elim | skip
  · simp only [RD] at rv; subst rv
    exact .inr ⟨_, rfl, p.here rs (by simp only [rD, RD]; rfl)⟩
  · simp only [RD] at rv; subst rv
    exact .inl ⟨_, rfl, p.here rs (by simp only [rD, RD])⟩
theorem uQ (ns : List Int) : PySem.preSum (fun i => ns.getD i 0) ns.length = ns.sum := by
  have key : ∀ k, k ≤ ns.length → PySem.preSum (fun i => ns.getD i 0) k = (ns.take k).sum := by
    intro k
    induction k with
    | zero => intro _; simp [PySem.preSum]
    | succ k ih =>
      intro hk
      rw [PySem.preSum, ih (by omega), List.take_add_one, List.getElem?_eq_getElem (by omega), List.sum_append]
      simp [List.getD, List.getElem?_eq_getElem (show k < ns.length by omega)]
  rw [key _ (Nat.le_refl _), List.take_length]
theorem zh {its : List Value} {ns : List Int} (r : aV (ns.map V.int) its) (i : Nat) (v : Value) (h : its.toArray[i]? = some v) : ∃ t, v = .int (ns.getD i 0) t := by
  have h' : its[i]? = some v := by simpa using h
  have hl := r.length
  have hi : i < its.length := (List.getElem?_eq_some_iff.mp h').1
  have hn : i < ns.length := by rw [← hl] at hi; simpa using hi
  obtain ⟨u, hu, ru⟩ := r.get (i := i) (x := .int ns[i]) (by simp [hn])
  rw [h'] at hu
  cases hu
  obtain ⟨t, e⟩ := ru
  exact ⟨t, by rw [e]; simp [List.getD, hn]⟩
theorem z9 (hc : X.calm = true) : eR X (.builtin "sum") (fun xs H Q => ∃ (p : Addr) (ns : List Int), xs = [.ref p] ∧ (SqL X.K H p (ns.map V.int) ∨ SqT X.K H p (ns.map V.int)) ∧ Q (.int ns.sum) H) := by
  intro pins s σ H xs us Q I r q
  obtain ⟨p, ns, rfl, sq, q⟩ := q
  obtain ⟨u, rfl, ru⟩ := aV.one r
  cases (show u = Value.ref p from ru)
  have fin : ∀ {it : Obj} {h' : Heap} {tk : Nat} {t' : Tok} {n : Nat}, n = ns.length → (∀ b o, b ∉ [s.heap.objs.size] → (s.heap.push it).get? b = some o → h'.get? b = some o) → EP X pins σ Q (.int (PySem.preSum (fun i => ns.getD i 0) n) t') { s with heap := h', toks := tk } := by
    intro it h' tk t' n hn hk
    subst hn
    refine ⟨.int ns.sum, H, I.kept (t' := tk) fun b o e => hk b o (by simp; exact Nat.ne_of_lt (Heap.lt_size e)) (Heap.get?_push_of_some _ e), ⟨t', by rw [uQ]⟩, q⟩
  have hA : (X.A.in1).handled = none := I.ok.hd hc
  rcases sq with sq | sq
  · obtain ⟨its, rv, pl, hz⟩ := I.list sq
    have il : s.heap.IsList p its.toArray := pl.isList
    have hlt : p < s.heap.objs.size := by obtain ⟨o, ho, _⟩ := il; exact Heap.lt_size ho
    refine PySem.call_sum_walkG (PySem.wpAny_pyIter_list il ?_)
    refine ⟨s.heap.objs.size, _, [s.heap.objs.size], _, _, _, fun i => ns.getD i 0, rfl, PySem.Walks.list hA s.heap.objs.size p (Nat.ne_of_lt hlt) its.toArray, ⟨⟨_, Heap.get?_push_size _ rfl, rfl, rfl⟩, ?_⟩, ?_, zh rv, ?_⟩
    · obtain ⟨o, ho, r⟩ := il; exact ⟨o, Heap.get?_push_of_some _ ho, r⟩
    · intro b hb
      rcases List.mem_cons.mp hb with rfl | hb
      · rw [Heap.size_push]; exact Nat.lt_succ_self _
      · simp at hb; subst hb; rw [Heap.size_push]; exact Nat.lt_succ_of_lt hlt
    · exact fun h' tk t' hk => fin (by simpa using rv.length.symm) hk
  · obtain ⟨its, rv, pl, hz⟩ := I.tuple sq
    have il : s.heap.IsTuple p its.toArray := pl
    have hlt : p < s.heap.objs.size := by obtain ⟨o, ho, _⟩ := il; exact Heap.lt_size ho
    refine PySem.call_sum_walkG (PySem.wpAny_pyIter_tuple il ?_)
    refine ⟨s.heap.objs.size, _, [s.heap.objs.size], _, _, _, fun i => ns.getD i 0, rfl, PySem.Walks.tuple hA s.heap.objs.size p (Nat.ne_of_lt hlt) its.toArray, ⟨⟨_, Heap.get?_push_size _ rfl, rfl, rfl⟩, ?_⟩, ?_, zh rv, ?_⟩
    · obtain ⟨o, ho, r⟩ := il; exact ⟨o, Heap.get?_push_of_some _ ho, r⟩
    · intro b hb
      rcases List.mem_cons.mp hb with rfl | hb
      · rw [Heap.size_push]; exact Nat.lt_succ_self _
      · simp at hb; subst hb; rw [Heap.size_push]; exact Nat.lt_succ_of_lt hlt
    · exact fun h' tk t' hk => fin (by simpa using rv.length.symm) hk
theorem uR {K : PySem.W.Frag} {ρ : List Addr} {H : Hp} : ∀ {l : List D} {vs : List V} {is : List Int}, RDs K ρ H l vs → iE l = some is → vs = is.map V.int
  | [], _, is, r, e => by simp only [iE] at e; cases e; simp only [RDs] at r; subst r; rfl
  | d :: l, _, is, r, e => by
    simp only [RDs] at r
    obtain ⟨v, vs, rfl, h1, h2⟩ := r
    cases d <;> simp only [iE] at e <;> try (cases e; done)
    rename_i i
    cases c : iE l with
    | none => rw [c] at e; cases e
    | some js =>
      rw [c] at e
      cases e
      simp only [RD] at h1
      rw [h1, uR h2 c]
      rfl
theorem Go {p : Pos} {a : Expr} {la : LF} (hc : X.calm = true) (hg : Gl X "sum") (hm : X.mg "sum" = none) (ha : MQ X a la) (hs : starEach [a] X.env = (false, eval a X.env) :: starEach [] X.env := by rfl) : ME X (.Call (.Name "sum" p) [a] [] pos) (Ee la) := by
  refine sX (g := fun l h => match iE l with | some is => .ok (.int is.sum) h | none => .bad) (Ca (z9 hc) hg hm (by decide +kernel) (he := hs)) ha (fun ρ H σd hd σ l q vs Q rs sq rvs p => ?_) hs
  cases c : iE l with
  | none => simp only [c] at p; exact p.elim
  | some is =>
    simp only [c] at p
    have e := uR rvs c
    subst e
    exact ⟨q, is, rfl, sq.imp id SqT.of, p.here rs (by simp only [rD, RD])⟩
end
end Fm
set_option Elab.async false
set_option linter.all false
set_option maxRecDepth 100000
namespace Fm
open PySem PySem.Spec L2
section
variable {K : PySem.W.Frag} {ρ : List Addr} {H : Hp}
mutual
theorem uS : ∀ {d k : D} {v : V} {b : Bool}, RD K ρ H d v → RD K ρ H k v → peq d k = some b → b = true
  | .int i, k, v, b, h1, h2, e => by
    simp only [RD] at h1; subst h1
    cases k <;> simp only [RD] at h2 <;> try (cases h2; done)
    all_goals first
      | (cases h2; simp only [peq] at e; simpa using e.symm)
      | (obtain ⟨_, _, z, _⟩ := h2; cases z; done)
      | (obtain ⟨_, _, z⟩ := h2; cases z; done)
      | (obtain ⟨_, _, _, z, _⟩ := h2; cases z; done)
  | .bl i, k, v, b, h1, h2, e => by
    simp only [RD] at h1; subst h1
    cases k <;> simp only [RD] at h2 <;> try (cases h2; done)
    all_goals first
      | (cases h2; simp only [peq] at e; simpa using e.symm)
      | (obtain ⟨_, _, z, _⟩ := h2; cases z; done)
      | (obtain ⟨_, _, z⟩ := h2; cases z; done)
      | (obtain ⟨_, _, _, z, _⟩ := h2; cases z; done)
  | .str x, k, v, b, h1, h2, e => by
    simp only [RD] at h1; subst h1
    cases k <;> simp only [RD] at h2 <;> try (cases h2; done)
    all_goals first
      | (simp only [peq] at e; simp only [toS, V.str.injEq, PySem.Str.mk.injEq] at h2; have h3 := congrArg Array.toList h2; simp at h3; subst h3; simpa using e.symm)
      | (obtain ⟨_, _, z, _⟩ := h2; cases z; done)
      | (obtain ⟨_, _, z⟩ := h2; cases z; done)
      | (obtain ⟨_, _, _, z, _⟩ := h2; cases z; done)
  | .non, k, v, b, h1, h2, e => by
    simp only [RD] at h1; subst h1
    cases k <;> simp only [RD] at h2 <;> try (cases h2; done)
    all_goals first
      | (simp only [peq] at e; simpa using e.symm)
      | (obtain ⟨_, _, z, _⟩ := h2; cases z; done)
      | (obtain ⟨_, _, z⟩ := h2; cases z; done)
      | (obtain ⟨_, _, _, z, _⟩ := h2; cases z; done)
  | .tup xs, k, v, b, h1, h2, e => by
    simp only [RD] at h1
    obtain ⟨p, vs, rfl, hp, r1⟩ := h1
    cases k <;> simp only [peq] at e <;> try (cases e; done)
    · simp only [RD] at h2; cases h2
    · simp only [RD] at h2; cases h2
    · rename_i ys
      simp only [RD] at h2
      obtain ⟨p', vs', z, hp', r2⟩ := h2
      cases z
      rw [hp] at hp'; cases hp'
      cases c : jz xs ys with
      | none => rw [c] at e; cases e
      | some b' =>
        rw [c] at e
        simp only [Option.map_some, Option.some.injEq] at e
        have := rA r1 r2 c
        subst this
        rw [← e, r1.length, r2.length]
        simp
  | .ref n, k, v, b, h1, h2, e => by cases k <;> simp only [peq] at e <;> cases e
  | .lit l, k, v, b, h1, h2, e => by cases k <;> simp only [peq] at e <;> cases e
  | .exn c l, k, v, b, h1, h2, e => by simp only [peq] at e <;> cases e
theorem rA : ∀ {xs ys : List D} {vs : List V} {b : Bool}, RDs K ρ H xs vs → RDs K ρ H ys vs → jz xs ys = some b → b = true
  | [], _, _, _, _, _, e => by simp only [jz] at e; cases e; rfl
  | x :: xs, [], _, _, _, _, e => by simp only [jz] at e; cases e; rfl
  | x :: xs, y :: ys, _, b, h1, h2, e => by
    simp only [RDs] at h1 h2
    obtain ⟨v, r, rfl, a1, a2⟩ := h1
    obtain ⟨v', r', z, b1, b2⟩ := h2
    cases z
    simp only [jz] at e
    cases c : peq x y with
    | none => rw [c] at e; cases e
    | some p =>
      cases c2 : jz xs ys with
      | none => rw [c, c2] at e; cases e
      | some q =>
        rw [c, c2] at e
        simp only [Option.some.injEq] at e
        rw [← e, uS a1 b1 c, rA a2 b2 c2]; rfl
end
end
section
variable {K : PySem.W.Frag} {ρ : List Addr} {H : Hp} {P : Program} {w : World} {s : Shared}
theorem ia (hok : HOk P w H s.heap) {p : Addr} {vs : List V} (h : H p = some (.tup vs)) : ∃ its : List Value, aV vs its ∧ s.heap.IsTuple p its.toArray := by
  obtain ⟨z, its, r, t⟩ := hok p _ h
  exact ⟨its, r, t⟩
mutual
theorem Gp (hok : HOk P w H s.heap) : ∀ {d k : D} {v v' : V} {u u' : Value} {b : Bool} {A : Around}, RD K ρ H d v → RD K ρ H k v' → bB v u → bB v' u' → peq d k = some b → A.units + dep d < cLine → SeqAt.EqAt A s u u' b
  | .int i, k, v, v', u, u', b, A, h1, h2, r1, r2, e, hu => by
    simp only [RD] at h1; subst h1
    obtain ⟨t, rfl⟩ := r1
    cases k <;> simp only [peq] at e <;> try (cases e; done)
    all_goals cases e
    · simp only [RD] at h2; subst h2; cases r2; exact SeqAt.EqAt.int_none i t
    · simp only [RD] at h2; subst h2; cases r2; exact SeqAt.EqAt.int_bool i t _
    · simp only [RD] at h2; subst h2; obtain ⟨t', rfl⟩ := r2; exact SeqAt.EqAt.int_int i t _ t'
    · simp only [RD] at h2; obtain ⟨p, vs, rfl, hp, _⟩ := h2; cases r2
      obtain ⟨its, _, il⟩ := ia hok hp
      exact SeqAt.EqAt.int_tuple i t il (Nat.lt_of_le_of_lt (Nat.le_add_right _ _) hu)
  | .bl i, k, v, v', u, u', b, A, h1, h2, r1, r2, e, hu => by
    simp only [RD] at h1; subst h1
    cases r1
    cases k <;> simp only [peq] at e <;> try (cases e; done)
    all_goals cases e
    · simp only [RD] at h2; subst h2; cases r2; exact SeqAt.EqAt.bool_bool i _
    · simp only [RD] at h2; subst h2; obtain ⟨t', rfl⟩ := r2; exact SeqAt.EqAt.bool_int i _ t'
  | .str x, k, v, v', u, u', b, A, h1, h2, r1, r2, e, hu => by
    simp only [RD] at h1; subst h1
    obtain ⟨t, rfl⟩ := r1
    cases k <;> simp only [peq] at e <;> try (cases e; done)
    all_goals cases e
    rename_i y
    simp only [RD] at h2; subst h2; obtain ⟨t', rfl⟩ := r2
    have : decide (x = y) = (toS x == toS y) := by
      by_cases z : x = y
      · subst z; simp
      · have : ¬ toS x = toS y := fun q => z (by have := congrArg (fun (s : Str) => s.cps.toList) q; simpa [toS] using this)
        simp [z, this]
    rw [this]
    exact SeqAt.EqAt.str_str _ t _ t'
  | .non, k, v, v', u, u', b, A, h1, h2, r1, r2, e, hu => by
    simp only [RD] at h1; subst h1
    cases r1
    cases k <;> simp only [peq] at e <;> try (cases e; done)
    all_goals cases e
    · simp only [RD] at h2; subst h2; cases r2; exact SeqAt.EqAt.same _
    · simp only [RD] at h2; subst h2; obtain ⟨t', rfl⟩ := r2; exact SeqAt.EqAt.none_int _ t'
    · simp only [RD] at h2; obtain ⟨p, vs, rfl, hp, _⟩ := h2; cases r2
      obtain ⟨its, _, il⟩ := ia hok hp
      exact SeqAt.EqAt.none_tuple il (Nat.lt_of_le_of_lt (Nat.le_add_right _ _) hu)
  | .tup xs, k, v, v', u, u', b, A, h1, h2, r1, r2, e, hu => by
    have h1' := h1
    simp only [RD] at h1
    obtain ⟨p, vs, rfl, hp, q1⟩ := h1
    cases r1
    obtain ⟨its, rv, il⟩ := ia hok hp
    have hu0 : A.units < cLine := Nat.lt_of_le_of_lt (Nat.le_add_right _ _) hu
    cases k <;> simp only [peq] at e <;> try (cases e; done)
    · cases e; simp only [RD] at h2; subst h2; cases r2; exact SeqAt.EqAt.tuple_none il hu0
    · cases e; simp only [RD] at h2; subst h2; obtain ⟨t', rfl⟩ := r2; exact SeqAt.EqAt.tuple_int _ t' il hu0
    · rename_i ys
      have h2' := h2
      simp only [RD] at h2
      obtain ⟨p', vs', rfl, hp', q2⟩ := h2
      cases r2
      by_cases hpp : p = p'
      · subst hpp
        have : b = true := uS h1' h2' (by simp only [peq]; exact e)
        subst this
        exact SeqAt.EqAt.same _
      · obtain ⟨its', rv', il'⟩ := ia hok hp'
        cases c : jz xs ys with
        | none => rw [c] at e; cases e
        | some b' =>
          rw [c] at e
          simp only [Option.map_some, Option.some.injEq] at e
          obtain ⟨f, hf, ha⟩ := mO hok (A := A.in1) q1 q2 rv rv' c (by simp only [dep] at hu; show A.units + 1 + nn xs < cLine; omega)
          have := SeqAt.RcAt.tuples (s := s) (A := A) (e := f) il il' hu0 (fun j h1 h2 => by simpa using hf j (by simpa using h1) (by simpa using h2))
          rw [← e, ← ha, q1.length, q2.length, rv.length, rv'.length]
          refine SeqAt.EqAt.of_refs hpp ?_
          rw [show (decide (its.length = its'.length)) = (its.length == its'.length) from rfl]
          simpa using this
  | .ref n, k, v, v', u, u', b, A, h1, h2, r1, r2, e, hu => by cases k <;> simp only [peq] at e <;> cases e
  | .lit l, k, v, v', u, u', b, A, h1, h2, r1, r2, e, hu => by cases k <;> simp only [peq] at e <;> cases e
  | .exn c l, k, v, v', u, u', b, A, h1, h2, r1, r2, e, hu => by simp only [peq] at e <;> cases e
theorem mO (hok : HOk P w H s.heap) : ∀ {xs ys : List D} {vs vs' : List V} {us us' : List Value} {b : Bool} {A : Around}, RDs K ρ H xs vs → RDs K ρ H ys vs' → aV vs us → aV vs' us' → jz xs ys = some b → A.units + nn xs < cLine →
    ∃ f : Nat → Bool, (∀ j (h1 : j < us.length) (h2 : j < us'.length), SeqAt.EqAt A s us[j] us'[j] (f j)) ∧ (List.range (min us.length us'.length)).all f = b
  | [], ys, vs, vs', us, us', b, A, h1, h2, r1, r2, e, hu => by
    simp only [RDs] at h1; subst h1; cases r1
    simp only [jz] at e; cases e
    exact ⟨fun _ => true, fun j h1 => by simp at h1, by simp⟩
  | x :: xs, [], vs, vs', us, us', b, A, h1, h2, r1, r2, e, hu => by
    simp only [RDs] at h2; subst h2; cases r2
    simp only [jz] at e; cases e
    exact ⟨fun _ => true, fun j h1 h2 => by simp at h2, by simp⟩
  | x :: xs, y :: ys, vs, vs', us, us', b, A, h1, h2, r1, r2, e, hu => by
    simp only [RDs] at h1 h2
    obtain ⟨v, r, rfl, a1, a2⟩ := h1
    obtain ⟨v', r', rfl, b1, b2⟩ := h2
    cases r1 with
    | cons p1 p2 =>
      cases r2 with
      | cons s1 s2 =>
        simp only [jz] at e
        cases c : peq x y with
        | none => rw [c] at e; cases e
        | some p =>
          cases c2 : jz xs ys with
          | none => rw [c, c2] at e; cases e
          | some q =>
            rw [c, c2] at e
            simp only [Option.some.injEq] at e
            simp only [nn] at hu
            have g1 := Gp hok (A := A) a1 b1 p1 s1 c (by omega)
            obtain ⟨f, hf, ha⟩ := mO hok (A := A) a2 b2 p2 s2 c2 (by omega)
            refine ⟨fun j => match j with | 0 => p | j + 1 => f j, fun j h1 h2 => ?_, ?_⟩
            · cases j with
              | zero => exact g1
              | succ j => exact hf j (by simpa using h1) (by simpa using h2)
            · rw [← e, ← ha, List.length_cons, List.length_cons, Nat.succ_min_succ, List.range_succ_eq_map, List.all_cons, List.all_map]
              rfl
end
theorem Gq (hok : HOk P w H s.heap) {d k : D} {v v' : V} {u u' : Value} {b : Bool} {A : Around} (h1 : RD K ρ H d v) (h2 : RD K ρ H k v') (r1 : bB v u) (r2 : bB v' u') (e : peq d k = some b) (hu : A.units + dep d < cLine) :
    SeqAt.RcAt A s u u' b ∧ SeqAt.RcNeAt A s u u' (!b) := by
  have hu0 : A.units < cLine := Nat.lt_of_le_of_lt (Nat.le_add_right _ _) hu
  cases d <;> simp only [RD] at h1
  · subst h1; cases r1
    cases k <;> simp only [peq] at e <;> try (cases e; done)
    all_goals cases e
    · simp only [RD] at h2; subst h2; cases r2; exact ⟨SeqAt.RcAt.none_none, SeqAt.RcNeAt.none_none⟩
    · simp only [RD] at h2; subst h2; obtain ⟨t', rfl⟩ := r2; exact ⟨SeqAt.RcAt.none_int _ t', SeqAt.RcNeAt.none_int _ t'⟩
    · simp only [RD] at h2; obtain ⟨p, vs, rfl, hp, _⟩ := h2; cases r2
      obtain ⟨its, _, il⟩ := ia hok hp
      exact ⟨SeqAt.RcAt.none_tuple il hu0, SeqAt.RcNeAt.none_tuple il hu0⟩
  · subst h1; cases r1
    cases k <;> simp only [peq] at e <;> try (cases e; done)
    all_goals cases e
    · simp only [RD] at h2; subst h2; cases r2; exact ⟨SeqAt.RcAt.bool_bool _ _, SeqAt.RcNeAt.bool_bool _ _⟩
    · simp only [RD] at h2; subst h2; obtain ⟨t', rfl⟩ := r2; exact ⟨SeqAt.RcAt.bool_int _ _ t', SeqAt.RcNeAt.bool_int _ _ t'⟩
  · subst h1; obtain ⟨t, rfl⟩ := r1
    cases k <;> simp only [peq] at e <;> try (cases e; done)
    all_goals cases e
    · simp only [RD] at h2; subst h2; cases r2; exact ⟨SeqAt.RcAt.int_none _ t, SeqAt.RcNeAt.int_none _ t⟩
    · simp only [RD] at h2; subst h2; cases r2; exact ⟨SeqAt.RcAt.int_bool _ t _, SeqAt.RcNeAt.int_bool _ t _⟩
    · simp only [RD] at h2; subst h2; obtain ⟨t', rfl⟩ := r2; exact ⟨SeqAt.RcAt.int_int _ t _ t', SeqAt.RcNeAt.int_int _ t _ t'⟩
    · simp only [RD] at h2; obtain ⟨p, vs, rfl, hp, _⟩ := h2; cases r2
      obtain ⟨its, _, il⟩ := ia hok hp
      exact ⟨SeqAt.RcAt.int_tuple _ t il hu0, SeqAt.RcNeAt.int_tuple _ t il hu0⟩
  · subst h1; obtain ⟨t, rfl⟩ := r1
    cases k <;> simp only [peq] at e <;> try (cases e; done)
    all_goals cases e
    rename_i x y
    simp only [RD] at h2; subst h2; obtain ⟨t', rfl⟩ := r2
    have : decide (x = y) = (toS x == toS y) := by
      by_cases z : x = y
      · subst z; simp
      · have : ¬ toS x = toS y := fun q => z (by have := congrArg (fun (s : Str) => s.cps.toList) q; simpa [toS] using this)
        simp [z, this]
    rw [this]
    exact ⟨SeqAt.RcAt.str_str _ t _ t', SeqAt.RcNeAt.str_str _ t _ t'⟩
  · rename_i xs
    obtain ⟨p, vs, rfl, hp, q1⟩ := h1
    cases r1
    obtain ⟨its, rv, il⟩ := ia hok hp
    cases k <;> simp only [peq] at e <;> try (cases e; done)
    · cases e; simp only [RD] at h2; subst h2; cases r2; exact ⟨SeqAt.RcAt.tuple_none il hu0, SeqAt.RcNeAt.tuple_none il hu0⟩
    · cases e; simp only [RD] at h2; subst h2; obtain ⟨t', rfl⟩ := r2; exact ⟨SeqAt.RcAt.tuple_int _ t' il hu0, SeqAt.RcNeAt.tuple_int _ t' il hu0⟩
    · rename_i ys
      simp only [RD] at h2
      obtain ⟨p', vs', rfl, hp', q2⟩ := h2
      cases r2
      obtain ⟨its', rv', il'⟩ := ia hok hp'
      cases c : jz xs ys with
      | none => rw [c] at e; cases e
      | some b' =>
        rw [c] at e
        simp only [Option.map_some, Option.some.injEq] at e
        obtain ⟨f, hf, ha⟩ := mO hok (A := A.in1) q1 q2 rv rv' c (by simp only [dep] at hu; show A.units + 1 + nn xs < cLine; omega)
        have g1 := SeqAt.RcAt.tuples (s := s) (A := A) (e := f) il il' hu0 (fun j h1 h2 => by simpa using hf j (by simpa using h1) (by simpa using h2))
        have g2 := SeqAt.RcNeAt.tuples (s := s) (A := A) (e := f) il il' hu0 (fun j h1 h2 => by simpa using hf j (by simpa using h1) (by simpa using h2))
        rw [← e, ← ha, q1.length, q2.length, rv.length, rv'.length, show (decide (its.length = its'.length)) = (its.length == its'.length) from rfl]
        exact ⟨by simpa using g1, by simpa using g2⟩
  · cases k <;> simp only [peq] at e <;> cases e
  · cases k <;> simp only [peq] at e <;> cases e
  · simp only [peq] at e <;> cases e
end
section
variable {X : Cx}
theorem sY {K : PySem.W.Frag} {ρ : List Addr} {H : Hp} {hd : Hd} {d : D} {v : V} {l : List D} (r : RH K ρ H hd) (h : RD K ρ H d v) (e : fP hd d = some l) : ∃ p vs, v = .ref p ∧ SqL K H p vs ∧ RDs K ρ H l vs := by
  cases d <;> simp only [fP] at e <;> try (cases e; done)
  · rename_i n
    simp only [RD] at h
    obtain ⟨a, e1, e2⟩ := h
    cases c : hd[n]? with
    | none => rw [c] at e; cases e
    | some x =>
      rw [c] at e
      cases x with
      | dct l => cases e
      | lst l' =>
        cases e
        obtain ⟨vs, q1, q2⟩ := r.cel n _ a c e1
        exact ⟨a, vs, e2, SqL.of q1, q2⟩
  · cases e
    simp only [RD] at h
    obtain ⟨p, vs, e1, e2, e3⟩ := h
    exact ⟨p, vs, e1, e2.sq, e3⟩
theorem Cc {pins : List (Addr × Obj)} {σ : St} {H : Hp} {s : Shared} {ρ : List Addr} {hd : Hd} {d k : D} {v v' : V} {u u' : Value} {b : Bool} (hu : X.A.units + 24 < cLine) (I : Inv X pins σ H s) (r : RH X.K ρ H hd) (h1 : RD X.K ρ H d v) (h2 : RD X.K ρ H k v')
    (r1 : bB v u) (r2 : bB v' u') (e : eqG hd d k = some b) : SeqAt.RcAt X.A s u u' b ∧ SeqAt.RcNeAt X.A s u u' (!b) := by
  have hu0 : X.A.units < cLine := by omega
  simp only [eqG] at e
  cases c1 : fP hd d with
  | none =>
    cases c2 : fP hd k with
    | some l => rw [c1, c2] at e; cases e
    | none =>
      rw [c1, c2] at e
      simp only at e
      split at e
      · rename_i hd20
        exact Gq I.hok h1 h2 r1 r2 e (by omega)
      · cases e
  | some xs =>
    cases c2 : fP hd k with
    | none => rw [c1, c2] at e; cases e
    | some ys =>
      rw [c1, c2] at e
      simp only [eqL] at e
      obtain ⟨p, vs, rfl, s1, q1⟩ := sY r h1 c1
      obtain ⟨p', vs', rfl, s2, q2⟩ := sY r h2 c2
      cases r1; cases r2
      obtain ⟨its, rv, pl, _⟩ := I.list s1
      obtain ⟨its', rv', pl', _⟩ := I.list s2
      have il : s.heap.IsList p its.toArray := pl.isList
      have il' : s.heap.IsList p' its'.toArray := pl'.isList
      have l1 : xs.length = its.length := q1.length.trans rv.length
      have l2 : ys.length = its'.length := q2.length.trans rv'.length
      split at e
      · rename_i hd20
        split at e
        · rename_i hl
          obtain ⟨f, hf, ha⟩ := mO I.hok (A := X.A.in1) q1 q2 rv rv' e (by show X.A.units + 1 + nn xs < cLine; omega)
          have hs : its.toArray.size = its'.toArray.size := by simp; omega
          have g1 := SeqAt.RcAt.lists (s := s) (A := X.A) (e := f) il il' hs hu0 (fun j h1 h2 => by simpa using hf j (by simpa using h1) (by simpa using h2))
          have g2 := SeqAt.RcNeAt.lists (s := s) (A := X.A) (e := f) il il' hs hu0 (fun j h1 h2 => by simpa using hf j (by simpa using h1) (by simpa using h2))
          have hm : min its.length its'.length = its.length := by omega
          rw [hm] at ha
          rw [← ha]
          exact ⟨by simpa using g1, by simpa using g2⟩
        · rename_i hl
          cases e
          have hs : (its.toArray.size != its'.toArray.size) = true := by simp; omega
          exact ⟨SeqAt.RcAt.lists_lengths il il' hs hu0, SeqAt.RcNeAt.lists_lengths il il' hs hu0⟩
      · cases e
def Ei (K : PySem.W.Frag) (f : Bool → Bool) : R2 := fun x y H Q => ∃ ρ hd d k b, RH K ρ H hd ∧ RD K ρ H d x ∧ RD K ρ H k y ∧ eqG hd d k = some b ∧ Q (.bl (f b)) H
theorem c6 (hu : X.A.units + 24 < cLine) : OpR X (compareOp .Eq) (Ei X.K id) := by
  intro pins s σ H x y v u Q I rx ry h
  obtain ⟨ρ, hd, d, k, b, r, h1, h2, e, q⟩ := h
  exact (Cc hu I r h1 h2 rx ry e).1 _ _ _ _ ⟨.bl b, H, I, rfl, q⟩
theorem ic (hu : X.A.units + 24 < cLine) : OpR X (compareOp .NotEq) (Ei X.K not) := by
  intro pins s σ H x y v u Q I rx ry h
  obtain ⟨ρ, hd, d, k, b, r, h1, h2, e, q⟩ := h
  exact (Cc hu I r h1 h2 rx ry e).2 _ _ _ _ ⟨.bl (!b), H, I, rfl, q⟩
theorem ez {K : PySem.W.Frag} : Og K oEq (Ei K id) := by
  intro ρ H σd hd σ d k v w Q rs rv rw' p
  unfold oEq at p
  cases e : eqG hd d k with
  | none => rw [e] at p; exact p.elim
  | some b => rw [e] at p; exact ⟨ρ, hd, d, k, b, rs.hp, rv, rw', e, p.here rs (by simp only [rD, RD]; rfl)⟩
theorem kz {K : PySem.W.Frag} : Og K oNe (Ei K not) := by
  intro ρ H σd hd σ d k v w Q rs rv rw' p
  unfold oNe at p
  cases e : eqG hd d k with
  | none => rw [e] at p; exact p.elim
  | some b => rw [e] at p; exact ⟨ρ, hd, d, k, b, rs.hp, rv, rw', e, p.here rs (by simp only [rD, RD])⟩
end
end Fm
set_option Elab.async false
set_option linter.all false
set_option maxRecDepth 100000
namespace Fm
open PySem PySem.Spec L2
section
variable {K : PySem.W.Frag} {ρ ρ' : List Addr} {H H' : Hp} {hd hd' : Hd} {σd : Sd} {σ : St}
theorem bN.outE {r : Res D} {k : D → Hd → Out} {En : m4} (p : bN K ρ H (outE r σd k) En) :
    bo K (rD K) ρ H σd σ r (fun v H' => ∃ ρ' d hd', Ext ρ H ρ' H' ∧ RS K ρ' H' σd hd' σ ∧ RD K ρ' H' d v ∧ bN K ρ' H' (k d hd') En) := by
  cases r with
  | ok d h' => exact fun b H' ρ' ex rs q => ⟨ρ', d, h', ex, rs, q, bN.ext ex p⟩
  | exc x h' => exact p
  | bad => exact p
theorem RSt.set (r : RSt K ρ H σd σ) {d : D} {v : V} (i : Nat) (h : RD K ρ H d v) : RSt K ρ H (σd.set i (some d)) (σ.set i (some v)) := by
  refine ⟨by simp [r.len], fun j x e => ?_⟩
  by_cases hj : i = j
  · subst hj
    by_cases hl : i < σd.length
    · simp only [slot, List.getElem?_set_self hl] at e
      cases e
      exact ⟨v, by rw [List.getElem?_set_self (by rw [← r.len]; exact hl)], h⟩
    · simp only [slot] at e
      rw [List.getElem?_eq_none (by simp; omega)] at e
      cases e
  · simp only [slot, List.getElem?_set_ne hj] at e
    rw [List.getElem?_set_ne hj]
    exact r.at' j x (by simpa only [slot] using e)
def Ip (K : PySem.W.Frag) (g : GF) : TG := fun v σ H Q => ∃ ρ σd hd d σd', RS K ρ H σd hd σ ∧ RD K ρ H d v ∧ g d σd = some σd' ∧ ∀ σ', RS K ρ H σd' hd σ' → Q σ' H
def Gr (σ : Sd) (l : List Nat) (xs : List D) : Sd := (l.zip xs).foldl (fun σ p => σ.set p.1 (some p.2)) σ
def Gs (K : PySem.W.Frag) (l : List Nat) : TGs := fun vs σ H Q => ∃ ρ σd hd ds, RS K ρ H σd hd σ ∧ RDs K ρ H ds vs ∧ ds.length = l.length ∧ ∀ σ', RS K ρ H (Gr σd l ds) hd σ' → Q σ' H
end
def MG (X : Cx) (tg : Expr) (g : GF) : Prop := PG X tg (Ip X.K g)
def MGs (X : Cx) (ts : List Expr) (l : List Nat) : Prop := PGs X ts (Gs X.K l)
section
variable {X : Cx} {pos : Pos}
theorem PG.imp {tg : Expr} {t u : TG} (h : PG X tg t) (i : ∀ v σ H Q, u v σ H Q → t v σ H Q) : PG X tg u := fun pins s σ H v w Q I r q => h pins s σ H v w Q I r (i v σ H Q q)
theorem PGs.imp {tg : List Expr} {t u : TGs} (h : PGs X tg t) (i : ∀ v σ H Q, u v σ H Q → t v σ H Q) : PGs X tg u := fun pins s σ H v w Q I r q => h pins s σ H v w Q I r (i v σ H Q q)
theorem bh {i : Nat} {x : Str} (hN : X.N.Nodup) (hi : X.N[i]? = some x) (hx : Loc X.env.scope x) (hf : X.fn x = true ∨ X.env.scope.names.lookup x = some .local := by first | exact .inl rfl | exact .inr rfl | assumption) : MG X (.Name x pos) (gN i) := by
  refine PG.imp (D1 hN hi hx hf) fun v σ H Q ⟨ρ, σd, hd, d, σd', rs, rv, e, q⟩ => ?_
  simp only [gN, Option.some.injEq] at e
  subst e
  exact q _ ⟨rs.hp, rs.st.set i rv⟩
theorem kA : MGs X [] [] := by
  refine PGs.imp D2 fun vs σ H Q ⟨ρ, σd, hd, ds, rs, rv, e, q⟩ => ?_
  have : ds = [] := by simpa using e
  subst this
  simp only [RDs] at rv
  exact ⟨rv, q σ rs⟩
theorem cA {e : Expr} {es : List Expr} {i : Nat} {l : List Nat} (h1 : MG X e (gN i)) (h2 : MGs X es l)
    (hs : (assignEach (e :: es) X.env).map (·.2) = assign e X.env :: (assignEach es X.env).map (·.2) := by rfl) : MGs X (e :: es) (i :: l) := by
  refine PGs.imp (BP h1 h2 hs) fun vs σ H Q ⟨ρ, σd, hd, ds, rs, rv, e, q⟩ => ?_
  cases ds with
  | nil => simp at e
  | cons d ds =>
    simp only [RDs] at rv
    obtain ⟨v, r, rfl, h1, h2⟩ := rv
    refine ⟨v, r, rfl, ρ, σd, hd, d, _, rs, h1, rfl, fun σ' rs' => ?_⟩
    exact ⟨ρ, _, hd, ds, rs', h2, by simpa using e, fun σ2 rs2 => q σ2 rs2⟩
theorem ny {es : List Expr} {k : Nat} {l : List Nat} (hc : X.calm = true) (h : MGs X es l)
    (hn : (assignEach es X.env).length = l.length := by rfl) (hst : (assignEach es X.env).findIdx? (·.1) = none := by rfl) : MG X (.Tuple es k pos) (gT l) := by
  refine PG.imp (FZ hc h hn hst) fun v σ H Q ⟨ρ, σd, hd, d, σd', rs, rv, e, q⟩ => ?_
  cases d <;> simp only [gT] at e <;> try (cases e; done)
  rename_i xs
  split at e
  · rename_i hl
    cases e
    simp only [RD] at rv
    obtain ⟨p, vs, rfl, hp, r⟩ := rv
    exact ⟨p, vs, rfl, SqT.of hp, by rw [← r.length]; exact hl, ρ, σd, hd, xs, rs, r, hl, q⟩
  · cases e
theorem aU : MSs X [] bn := PSs.imp sI fun En σ H ⟨ρ, σd, hd, rs, p⟩ => p σ H ρ Ext.refl rs
theorem ag {st : Stmt} {rest : List Stmt} {a b : SF} (h1 : MS X st a) (h2 : MSs X rest b) : MSs X (st :: rest) (aE a b) := by
  refine PSs.imp (uK h1 h2) fun En σ H ⟨ρ, σd, hd, rs, p⟩ => ⟨ρ, σd, hd, rs, ?_⟩
  unfold aE at p
  cases e : a σd hd with
  | nx σ1 h1 => rw [e] at p; exact fun σ' H' ρ' ex rs' => ⟨ρ', σ1, h1, rs', bN.ext ex p⟩
  | rt d h1 => rw [e] at p; exact p
  | bk σ1 h1 => rw [e] at p; exact p
  | ct σ1 h1 => rw [e] at p; exact p
  | exc x σ1 h1 => rw [e] at p; exact p
  | bad => rw [e] at p; exact p
theorem av {st : Stmt} {a : SF} (h : MS X st a) : MSs X [st] a := sJ h
theorem ie {st : Stmt} : MS X st iL := PS.imp BN fun En σ H ⟨ρ, σd, hd, rs, p⟩ => p.elim
theorem aK {e : Expr} {f : EF} (h : ME X e f) : MS X (.Return (some e) pos) (bb f) := by
  refine PS.imp (FV h) fun En σ H ⟨ρ, σd, hd, rs, p⟩ => ⟨ρ, σd, hd, rs, (bN.outE p).imp fun v H1 ⟨ρ1, d, hd1, e1, rs1, rv, p1⟩ => ?_⟩
  exact p1 v H1 ρ1 Ext.refl rs1.hp rv
theorem je {e : Expr} {f : EF} (h : ME X e f) (hs : swapsWith e none pos.line X.env = pure false := by rfl) : MS X (.Expr e pos) (dJ f) := by
  refine PS.imp (y6 h hs) fun En σ H ⟨ρ, σd, hd, rs, p⟩ => ⟨ρ, σd, hd, rs, (bN.outE p).imp fun v H1 ⟨ρ1, d, hd1, e1, rs1, rv, p1⟩ => ?_⟩
  exact p1 σ H1 ρ1 Ext.refl rs1
theorem bK {c : Expr} {a b : List Stmt} {t : TF} {fa fb : SF} (hc : MT X c t) (ha : MSs X a fa) (hb : MSs X b fb) : MS X (.If c a b pos) (sIf t fa fb) := by
  refine PS.imp (Fw hc ha hb) fun En σ H ⟨ρ, σd, hd, rs, p⟩ => ⟨ρ, σd, hd, rs, ?_⟩
  unfold sIf at p
  cases e : t σd hd with
  | ok c h1 =>
    rw [e] at p
    intro b H' ρ' ex rs' q
    cases q
    cases c with
    | true => simp only [if_true] at p ⊢; exact ⟨ρ', σd, h1, rs', bN.ext ex p⟩
    | false => simp only [Bool.false_eq_true, if_false] at p ⊢; exact ⟨ρ', σd, h1, rs', bN.ext ex p⟩
  | exc x h1 => rw [e] at p; exact p
  | bad => rw [e] at p; exact p
theorem aL {i : Nat} {x : Str} {e : Expr} {f : EF} {pos' : Pos} (hN : X.N.Nodup) (hi : X.N[i]? = some x) (hx : Loc X.env.scope x) (he : ME X e f) (hs : swapsWith e (some (.Name x pos')) pos.line X.env = pure false := by rfl) (hf : X.fn x = true ∨ X.env.scope.names.lookup x = some .local := by first | exact .inl rfl | exact .inr rfl | assumption) :
    MS X (.Assign [.Name x pos'] e pos) (aR (gN i) f) := by
  refine PS.imp (BR hN hi hx he hs hf) fun En σ H ⟨ρ, σd, hd, rs, p⟩ => ⟨ρ, σd, hd, rs, (bN.outE p).imp fun v H1 ⟨ρ1, d, hd1, e1, rs1, rv, p1⟩ => ?_⟩
  exact p1 _ H1 ρ1 Ext.refl ⟨rs1.hp, rs1.st.set i rv⟩
theorem Gu {tg e : Expr} {f : EF} {g : GF} (he : ME X e f) (hg : MG X tg g) (hs : swapsWithSole [tg] e pos.line X.env = pure false := by rfl) (hw : swappedStores [tg] e X.env = pure none := by rfl)
    (h1 : (assignEach [tg] X.env).map (·.2) = [assign tg X.env] := by rfl) : MS X (.Assign [tg] e pos) (aR g f) := by
  refine PS.imp (wE he hg hs hw h1) fun En σ H ⟨ρ, σd, hd, rs, p⟩ => ⟨ρ, σd, hd, rs, (bN.outE p).imp fun v H1 ⟨ρ1, d, hd1, e1, rs1, rv, p1⟩ => ?_⟩
  cases c : g d σd with
  | none => rw [c] at p1; exact p1.elim
  | some σ1 => rw [c] at p1; exact ⟨ρ1, σd, hd1, d, σ1, rs1, rv, c, fun σ' rs' => p1 σ' H1 ρ1 Ext.refl rs'⟩
theorem Gv : Fm.ixN = L2.ixN := rfl
theorem sZ {o i e : Expr} {fo fi fe : EF} {p2 : Pos} (he : ME X e fe) (ho : ME X o fo) (hi : ME X i fi) (hs : swapsWithSole [.Subscript o i p2] e pos.line X.env = pure false := by rfl) (hw : swappedStores [.Subscript o i p2] e X.env = pure none := by rfl)
    (h1 : (assignEach [.Subscript o i p2] X.env).map (·.2) = [assign (.Subscript o i p2) X.env] := by rfl) (ha : ∀ v, assign (.Subscript o i p2) X.env v = (do
      let ov ← holding [v] (eval o X.env)
      let iv ← holding [v, ov] (eval i X.env)
      standAt p2
      holding [v, ov, iv] (setItem ov iv v)
      release [v, ov, iv] []) := by intro _; rfl) : MS X (.Assign [.Subscript o i p2] e pos) (nt fo fi fe) := by
  refine PS.imp (wE he (BQ ho hi B3 ha) hs hw h1) fun En σ H ⟨ρ, σd, hd, rs, p⟩ => ⟨ρ, σd, hd, rs, (bN.outE p).imp fun v H1 ⟨ρ1, d, hd1, e1, rs1, rv, p1⟩ => ?_⟩
  refine ⟨ρ1, σd, hd1, rs1, (bN.outE p1).imp fun vo H2 ⟨ρ2, dO, hd2, e2, rs2, ro, p2⟩ => ?_⟩
  refine ⟨ρ2, σd, hd2, rs2, (bN.outE p2).imp fun vi H3 ⟨ρ3, di, hd3, e3, rs3, ri, p3⟩ => ?_⟩
  have rv3 := (rv.mono (rs1.hp.kp e2)).mono (rs2.hp.kp e3)
  have ro3 := ro.mono (rs2.hp.kp e3)
  cases dO with
  | ref n =>
    cases di with
    | int j =>
      simp only at p3
      cases c : hd3[n]? with
      | none => rw [c] at p3; exact p3.elim
      | some cell =>
        rw [c] at p3
        cases cell with
        | dct l => exact p3.elim
        | lst l =>
          simp only at p3
          cases c2 : ixN l.length j with
          | none => rw [c2] at p3; exact p3.elim
          | some k =>
            rw [c2] at p3
            simp only [RD] at ro3 ri
            obtain ⟨a, ha, rfl⟩ := ro3
            obtain ⟨vs, hv, rvs⟩ := rs3.hp.cel n _ a c ha
            refine ⟨a, vs, j, k, rfl, ri, hv, by rw [← rvs.length, ← Gv]; exact c2, ?_⟩
            have hn : n < hd3.length := (List.getElem?_eq_some_iff.mp c).1
            have rh := rs3.hp.write ha hn (RDs.set rv3 k rvs)
            have ex : Ext ρ3 H3 ρ3 (upd H3 a (.lst (vs.set k v))) := Ext.write (List.mem_of_getElem? ha)
            exact p3 σ _ ρ3 ex (rs3.ext ex rh)
    | _ => exact p3.elim
  | _ => exact p3.elim
end
section
variable (K : PySem.W.Frag)
structure nz (ρ0 : List Addr) (H0 : Hp) (J : It) (l : List D) (g : Option Nat) : Prop where
  go : ∀ ρ H hd (i : Nat) d, Ext ρ0 H0 ρ H → RH K ρ H hd → iK g l hd → l[i]? = some d → J.go i H ∧ ∀ x H', J.yld i H x H' → gc H H' ∧ RD K ρ H' d x
  stop : ∀ ρ H hd, Ext ρ0 H0 ρ H → RH K ρ H hd → iK g l hd → J.stop l.length H
  sz : l.length ≤ sizeLine
def Iq (ρ : List Addr) (H : Hp) (σd : Sd) (σ : St) (r : Res (List D × Option Nat)) (R : It → Hp → Prop) : Prop := match r with
  | .ok p hd' => ∀ J H' ρ', Ext ρ H ρ' H' → RS K ρ' H' σd hd' σ → nz K ρ' H' J p.1 p.2 → R J H'
  | _ => False
def Ir (f : IF) : TI := fun σ H R => ∃ ρ σd hd, RS K ρ H σd hd σ ∧ Iq K ρ H σd σ (f σd hd) R
end
def MI (X : Cx) (tg e : Expr) (f : IF) : Prop := PI X tg e (Ir X.K f)
section
variable {X : Cx} {pos : Pos} {tg : Expr}
theorem PI.imp {e : Expr} {t u : TI} (h : PI X tg e t) (i : ∀ σ H R, u σ H R → t σ H R) : PI X tg e u := fun pins s σ H R I q => h pins s σ H R I (i σ H R q)
theorem iT {iter : Expr} {body : List Stmt} {f : IF} {g : GF} {b : SF} (hp : PassesOwn (model X.prog X.w) X.A X.env X.xe) (hc : X.calm = true) (hi : MI X tg iter f) (hg : MG X tg g) (hb : MSs X body b)
    (hs : ∀ x, foldedSetIterable iter X.env x = pure x := by intro _; rfl) : MS X (.For tg iter body [] pos) (jA f g b) := by
  refine PS.imp (F3 hp hc hi hg hb hs) fun En σ H ⟨ρ, σd, hd, rs, p⟩ => ⟨ρ, σd, hd, rs, ?_⟩
  unfold jA at p
  cases e : f σd hd with
  | exc x h' => rw [e] at p; exact p
  | bad => rw [e] at p; exact p
  | ok q hd1 =>
    rw [e] at p
    obtain ⟨l, gd⟩ := q
    intro J H1 ρ1 ex1 rs1 wk
    simp only at p wk
    refine ⟨fun i m σ' H' => ∃ ρ' σd' hd', Ext ρ1 H1 ρ' H' ∧ RS X.K ρ' H' σd' hd' σ' ∧ i ≤ l.length ∧ m = l.length - i ∧ bN X.K ρ' H' (eA gd l g b (l.drop i) σd' hd') En,
      ⟨l.length, ρ1, σd, hd1, Ext.refl, rs1, Nat.zero_le _, by simp, by simpa using bN.ext ex1 p⟩, ?_⟩
    rintro i m σ' H' ⟨ρ', σd', hd', ex, rs', hil, rfl, pp⟩
    by_cases hlt : i < l.length
    · have hdi : l[i]? = some l[i] := by simp [hlt]
      rw [List.drop_eq_getElem_cons hlt] at pp
      unfold eA at pp
      by_cases hh : iK gd l hd'
      · rw [if_pos hh] at pp
        obtain ⟨go, yl⟩ := wk.go ρ' H' hd' i _ ex rs'.hp hh hdi
        refine .inr ⟨go, fun σ2 H2 => ∃ ρ2 σd2 hd2, Ext ρ1 H1 ρ2 H2 ∧ RS X.K ρ2 H2 σd2 hd2 σ2 ∧ bN X.K ρ2 H2 (eA gd l g b (l.drop (i + 1)) σd2 hd2) En,
          fun σ2 H2 ⟨ρ2, σd2, hd2, a1, a2, a3⟩ => ⟨l.length - (i + 1), by omega, ρ2, σd2, hd2, a1, a2, hlt, rfl, a3⟩, fun x H2 y => ?_⟩
        obtain ⟨sm, rx⟩ := yl x H2 y
        cases c : g l[i] σd' with
        | none => rw [c] at pp; exact pp.elim
        | some σd2 =>
          rw [c] at pp
          simp only at pp
          refine ⟨ρ', σd', hd', l[i], σd2, rs'.same sm, rx, c, fun σ2 rs2 => ⟨ρ', σd2, hd', rs2, ?_⟩⟩
          have e12 : Ext ρ' H' ρ' H2 := Ext.same sm
          cases c2 : b σd2 hd' with
          | nx σ3 h3 => rw [c2] at pp; exact fun σ4 H4 ρ4 ex4 rs4 => ⟨ρ4, σ3, h3, ex.trans (e12.trans ex4), rs4, bN.ext (e12.trans ex4) pp⟩
          | ct σ3 h3 => rw [c2] at pp; exact fun σ4 H4 ρ4 ex4 rs4 => ⟨ρ4, σ3, h3, ex.trans (e12.trans ex4), rs4, bN.ext (e12.trans ex4) pp⟩
          | bk σ3 h3 => rw [c2] at pp; exact fun σ4 H4 ρ4 ex4 rs4 => pp σ4 H4 ρ4 (e12.trans ex4) rs4
          | rt d h3 => rw [c2] at pp; exact fun v H4 ρ4 ex4 rs4 rv => pp v H4 ρ4 (e12.trans ex4) rs4 rv
          | exc x σ3 h3 => rw [c2] at pp; exact pp
          | bad => rw [c2] at pp; exact pp
      · rw [if_neg hh] at pp; exact pp.elim
    · have e0 : i = l.length := by omega
      subst e0
      rw [List.drop_length] at pp
      unfold eA at pp
      by_cases hh : iK gd l hd'
      · rw [if_pos hh] at pp
        exact .inl ⟨wk.stop ρ' H' hd' ex rs'.hp hh, pp σ' H' ρ' Ext.refl rs'⟩
      · rw [if_neg hh] at pp; exact pp.elim
theorem Cd {K : PySem.W.Frag} {ρ : List Addr} {H : Hp} {hd : Hd} {q : Addr} {l : List D} {vs : List V} (r : RH K ρ H hd) (hq : H q = some (.tup vs)) (rv : RDs K ρ H l vs) (hz : vs.length ≤ sizeLine) : nz K ρ H (Itt K q) l none where
  go := fun ρ' H' hd' i d ex rh _ hi => by
    have k := r.kp ex
    obtain ⟨v, hv, rd⟩ := (rv.mono k).get hi
    have sq : SqT K H' q vs := SqT.of (k.tup q vs hq)
    refine ⟨⟨vs, v, sq, hv⟩, fun x H2 y => ?_⟩
    obtain ⟨rfl, y⟩ := y
    have := y vs sq
    rw [hv] at this
    cases this
    exact ⟨gc.refl _, rd⟩
  stop := fun ρ' H' hd' ex rh _ => ⟨vs, SqT.of ((r.kp ex).tup q vs hq), by rw [rv.length]; exact Nat.le_refl _⟩
  sz := by rw [rv.length]; exact hz
theorem Ce {K : PySem.W.Frag} {ρ : List Addr} {H : Hp} {hd : Hd} {q : Addr} {l : List D} {vs : List V} (r : RH K ρ H hd) (hq : mf K H q vs) (rv : RDs K ρ H l vs) (hz : vs.length ≤ sizeLine) : nz K ρ H (Itl K q) l none where
  go := fun ρ' H' hd' i d ex rh _ hi => by
    have k := r.kp ex
    obtain ⟨v, hv, rd⟩ := (rv.mono k).get hi
    have sq : SqL K H' q vs := (hq.mono k).sq
    refine ⟨⟨vs, v, sq, hv⟩, fun x H2 y => ?_⟩
    obtain ⟨rfl, y⟩ := y
    have := y vs sq
    rw [hv] at this
    cases this
    exact ⟨gc.refl _, rd⟩
  stop := fun ρ' H' hd' ex rh _ => ⟨vs, (hq.mono (r.kp ex)).sq, by rw [rv.length]; exact Nat.le_refl _⟩
  sz := by rw [rv.length]; exact hz
theorem Cf {K : PySem.W.Frag} {ρ : List Addr} {H : Hp} {n : Nat} {q : Addr} {l : List D} (hq : ρ[n]? = some q) (hz : l.length ≤ sizeLine) : nz K ρ H (Itl K q) l (some n) where
  sz := hz
  go := fun ρ' H' hd' i d ex rh hl hi => by
    obtain ⟨vs, e, rv⟩ := rh.cel n _ q hl (ex.get hq)
    obtain ⟨v, hv, rd⟩ := rv.get hi
    have sq : SqL K H' q vs := SqL.of e
    refine ⟨⟨vs, v, sq, hv⟩, fun x H2 y => ?_⟩
    obtain ⟨rfl, y⟩ := y
    have := y vs sq
    rw [hv] at this
    cases this
    exact ⟨gc.refl _, rd⟩
  stop := fun ρ' H' hd' ex rh hl => by
    obtain ⟨vs, e, rv⟩ := rh.cel n _ q hl (ex.get hq)
    exact ⟨vs, SqL.of e, by rw [rv.length]; exact Nat.le_refl _⟩
theorem Gw {l : Expr} {tl : TE} (hl : PE X l tl) : PI X tg l (fun σ H R => tl σ H fun x H1 => (∃ a xs, x = .ref a ∧ SqL X.K H1 a xs ∧ (xs.length ≤ sizeLine → R (Itl X.K a) H1)) ∨ ∃ a xs, x = .ref a ∧ SqT X.K H1 a xs ∧ (xs.length ≤ sizeLine → R (Itt X.K a) H1)) := by
  intro pins s σ H R I h
  refine thn (hl pins s σ H _ I h) fun v s1 ⟨x, H1, I1, r1, q1⟩ => ?_
  rcases q1 with ⟨a, xs, e, hq, q⟩ | ⟨a, xs, e, hq, q⟩
  · subst e
    cases r1
    obtain ⟨its, rv, p, hz⟩ := I1.list hq
    refine wpAny_pyIter_list p.isList ?_
    refine ⟨s1.heap.objs.size, [s1.heap.objs.size], _, _, H1, rfl, I1.kept (t' := s1.toks) fun b o e => Heap.get?_push_of_some _ e, zU a _, ⟨_, Heap.get?_push_size _ rfl, rfl, rfl⟩, fun b hb => ?_, q hz⟩
    have e : b = s1.heap.objs.size := by simpa using hb
    subst e
    exact I1.fpOk (Nat.le_refl _) (I1.hok.fresh (Nat.le_refl _))
  · subst e
    cases r1
    obtain ⟨its, rv, p, hz⟩ := I1.tuple hq
    refine wpAny_pyIter_tuple (show s1.heap.IsTuple a its.toArray from p) ?_
    refine ⟨s1.heap.objs.size, [s1.heap.objs.size], _, _, H1, rfl, I1.kept (t' := s1.toks) fun b o e => Heap.get?_push_of_some _ e, wG a _, ⟨_, Heap.get?_push_size _ rfl, rfl, rfl⟩, fun b hb => ?_, q hz⟩
    have e : b = s1.heap.objs.size := by simpa using hb
    subst e
    exact I1.fpOk (Nat.le_refl _) (I1.hok.fresh (Nat.le_refl _))
theorem j3 {e : Expr} {f : EF} (h : ME X e f) : MI X tg e (hJ f) := by
  refine PI.imp (Gw h) fun σ H R ⟨ρ, σd, hd, rs, p⟩ => ⟨ρ, σd, hd, rs, ?_⟩
  unfold hJ at p
  cases e : f σd hd with
  | exc x h1 => rw [e] at p; exact p
  | bad => rw [e] at p; exact p
  | ok d hd1 =>
    rw [e] at p
    simp only [aI] at p
    intro v H1 ρ1 ex1 rs1 rv
    cases d <;> try exact p.elim
    · rename_i l
      simp only [rD, RD] at rv
      obtain ⟨q, vs, rfl, hq, rvs⟩ := rv
      exact .inr ⟨q, vs, rfl, SqT.of hq, fun hz => p _ H1 ρ1 ex1 rs1 (Cd rs1.hp hq rvs hz)⟩
    · rename_i n
      simp only [rD, RD] at rv
      obtain ⟨a, ha, rfl⟩ := rv
      cases c : hd1[n]? with
      | none => simp only [c] at p; exact p.elim
      | some cell =>
        cases cell with
        | dct l => simp only [c] at p; exact p.elim
        | lst l =>
          simp only [c] at p
          obtain ⟨vs, hv, rvs⟩ := rs1.hp.cel n _ a c ha
          exact .inl ⟨a, vs, rfl, SqL.of hv, fun hz => p _ H1 ρ1 ex1 rs1 (Cf ha (by rw [rvs.length]; exact hz))⟩
    · rename_i l
      simp only [rD, RD] at rv
      obtain ⟨q, vs, rfl, hq, rvs⟩ := rv
      exact .inl ⟨q, vs, rfl, hq.sq, fun hz => p _ H1 ρ1 ex1 rs1 (Ce rs1.hp hq rvs hz)⟩
theorem wO {K : PySem.W.Frag} {ρ : List Addr} {H : Hp} (lo : Int) (n : Nat) (hz : n ≤ 2000000) : nz K ρ H (Itr lo n) ((List.range n).map fun k : Nat => .int (lo + k)) none where
  go := fun ρ' H' hd' i d ex rh _ hi => by
    have hin : i < n := by
      have := (List.getElem?_eq_some_iff.mp hi).1
      simpa using this
    refine ⟨hin, fun x H2 y => ?_⟩
    obtain ⟨rfl, rfl⟩ := y
    have e : d = .int (lo + i) := by simpa [hin] using hi.symm
    subst e
    exact ⟨gc.refl _, by simp only [RD]⟩
  stop := fun ρ' H' hd' ex rh _ => by
    show n ≤ _
    simp
  sz := by
    have : (2000000 : Nat) ≤ sizeLine := by rw [sizeLine_eq]; decide
    simp; omega
theorem df {a : Expr} {f : EF} {p : Pos} (hg : Gl X "range") (hm : X.mg "range" = none) (ha : ME X a f) (hs : starEach [a] X.env = [(false, eval a X.env)] := by rfl) : MI X tg (.Call (.Name "range" p) [a] [] pos) (cq f) := by
  refine PI.imp (zV hg hm (bD ha c9 hs) hs) fun σ H R ⟨ρ, σd, hd, rs, pp⟩ => ⟨ρ, σd, hd, rs, ?_⟩
  unfold cq at pp
  cases e : f σd hd with
  | exc x h1 => rw [e] at pp; exact pp
  | bad => rw [e] at pp; exact pp
  | ok d hd1 =>
    rw [e] at pp
    simp only [aI] at pp
    intro v H1 ρ1 ex1 rs1 rv
    cases d <;> try exact pp.elim
    rename_i n
    simp only at pp
    simp only [rD, RD] at rv
    subst rv
    split at pp
    · rename_i hb
      refine ⟨n, rfl, by omega, by omega, pp _ H1 ρ1 ex1 rs1 ?_⟩
      have := wO (K := X.K) (ρ := ρ1) (H := H1) 0 n.toNat (by omega)
      simpa using this
    · exact pp.elim
end
end Fm
set_option linter.all false
namespace Fm
noncomputable section
open Classical
def iU (G : Hd → Prop) (tg : GF) (cs : List TF) (e : EF) : List D → Sd → Hd → Res (List D)
  | [], _, h => if G h then .ok [] h else .bad
  | x :: xs, σ, h => if G h then match tg x σ with
      | some σ => (iQ cs σ h).bind fun b h => if b then (e σ h).bind fun d h => (iU G tg cs e xs σ h).bind fun ds h => .ok (d :: ds) h
        else iU G tg cs e xs σ h
      | none => .bad
    else .bad
end
theorem s0 {g : Option Nat} {all : List D} {tg : GF} {cs : List TF} {e : EF} : ∀ (xs : List D) (σ : Sd) (h : Hd), cw g all tg cs e xs σ h = iU (iK g all) tg cs e xs σ h
  | [], _, h => by unfold cw iU; rfl
  | x :: xs, σ, h => by
    unfold cw iU
    by_cases hh : iK g all h
    · rw [if_pos hh, if_pos hh]
      cases tg x σ with
      | none => rfl
      | some σ' => simp only [s0 xs]
    · rw [if_neg hh, if_neg hh]
end Fm
set_option Elab.async false
set_option linter.all false
set_option maxRecDepth 100000
namespace Fm
open PySem PySem.Spec L2
section
variable {prog : Program} {w : World} {A : Around} {R : Result → Shared → Prop} {s : Shared}
theorem tf {elt target iter : Expr} {ifs : List Expr} {scope : Scope} {pos : Pos} {it acc : Value} {env : Env} {E : Value → Shared → Prop} (hE : ∀ e s, ¬ E e s) (I : Nat → Shared → Prop)
    (turn : ∀ n s, I n s → wpAny (model prog w) A (pyNext it) (fun r s₁ => match r with
      | none => R (.ok .next) s₁
      | some v => wpAny (model prog w) A (letOwnedTupleGo target it v) (fun _ s₁ => wpAny (model prog w) A (assign target env v) (fun _ s₂ =>
          wpAny (model prog w) A (forIn ifs true fun c r => if r = true then do let ok ← isTrue c env (eval c env); pure (ForInStep.yield ok) else pure (ForInStep.yield r)) (fun ok s₃ =>
            if ok = true then wpAny (model prog w) A (eval elt env) (fun x s₄ =>
              wpAny (model prog w) A (call (.builtin "list.append") [acc, x]) (fun _ s₅ => ∃ m, m < n ∧ I m s₅) E s₄) E s₃
            else ∃ m, m < n ∧ I m s₃) E s₂) E s₁) E s₁) E s)
    (n : Nat) (h : I n s) :
    codeAny (model prog w) A (.compLoop (.ListComp elt [⟨target, iter, ifs, 0⟩] scope pos) 0 it acc env) R s := by
  refine codeAny_loop rfl I (fun n s hI => ?_) n h
  show wpAny _ A ((compTurn (.ListComp elt [⟨target, iter, ifs, 0⟩] scope pos) 0 it acc env).onRaise (fun x => do noteFrame x env; theTreesLotGoes x)) _ _ s
  refine wpAny_noted ?_
  rw [compTurn_list]
  have no : ∀ {α : Type} {t : Sem α} {Q Q' : α → Shared → Prop} {E' : Value → Shared → Prop} {s : Shared}, wpAny (model prog w) A t Q E s → (∀ a s, Q a s → Q' a s) → wpAny (model prog w) A t Q' E' s := fun h hq => wpAny_mono h hq fun e s z => (hE e s z).elim
  refine wpAny_bind (wpAny_standAt (wpAny_bind (no (turn n s hI) fun r s₁ h₁ => ?_)))
  cases r with
  | none => exact wpAny_pure h₁
  | some v =>
    refine wpAny_bind (no h₁ fun _ s₁ h₁ => ?_)
    refine wpAny_bind (no h₁ fun _ s₂ h₂ => wpAny_bind (no h₂ fun ok s₃ h₃ => ?_))
    cases ok with
    | false => exact wpAny_pure ⟨rfl, h₃⟩
    | true =>
      exact wpAny_bind (wpAny_bind (no h₃ fun x s₄ h₄ => wpAny_bind (no h₄ fun _ s₅ h₅ => wpAny_pure (wpAny_pure ⟨rfl, h₅⟩))))
end
theorem j4 {env : Env} : ∀ (l : List (Str × NameKind)) (cs : List (Str × Addr)), (∀ y ∈ l, y.2 = .free → ∃ c, env.cells.lookup y.1 = some c) →
    ∃ cl, (forIn l cs fun (x : Str × NameKind) (r : List (Str × Addr)) => if (x.2 == .free) = true then do let a ← cellOf env x.1; pure (ForInStep.yield ((x.1, a) :: r)) else pure (ForInStep.yield r)) = (pure cl : Sem _) ∧
      (∀ x c, cl.lookup x = some c → cs.lookup x = some c ∨ env.cells.lookup x = some c) ∧ (∀ y ∈ l, y.2 = .free → ∃ c, cl.lookup y.1 = some c) ∧ ∀ x c, cs.lookup x = some c → ∃ c', cl.lookup x = some c'
  | [], cs, _ => ⟨cs, by simp, fun x c h => .inl h, fun y hy => by simp at hy, fun x c h => ⟨c, h⟩⟩
  | (n, k) :: l, cs, hf => by
    by_cases hk : k = .free
    · subst hk
      obtain ⟨c, hc⟩ := hf (n, .free) (by simp) rfl
      obtain ⟨cl, h1, h2, h3, h4⟩ := j4 l ((n, c) :: cs) fun y hy => hf y (by simp [hy])
      refine ⟨cl, ?_, fun x d h => ?_, fun y hy hyf => ?_, fun x d h => ?_⟩
      · rw [List.forIn_cons]
        simp only [beq_self_eq_true, if_true, cellOf, hc]
        exact h1
      · rcases h2 x d h with q | q
        · rw [List.lookup_cons] at q
          cases e : x == n with
          | true =>
            rw [e] at q
            have : x = n := by simpa using e
            subst this
            cases q
            exact .inr hc
          | false => rw [e] at q; exact .inl q
        · exact .inr q
      · rcases List.mem_cons.mp hy with e | e
        · subst e
          exact h4 n c (by simp [List.lookup_cons])
        · exact h3 y e hyf
      · by_cases e : x = n
        · subst e
          exact h4 x c (by simp [List.lookup_cons])
        · exact h4 x d (by rw [List.lookup_cons, beq_eq_false_iff_ne.mpr e]; exact h)
    · obtain ⟨cl, h1, h2, h3, h4⟩ := j4 l cs fun y hy => hf y (by simp [hy])
      refine ⟨cl, ?_, h2, fun y hy hyf => ?_, h4⟩
      · rw [List.forIn_cons]
        have : (k == NameKind.free) = false := by simpa using hk
        simp only [this, Bool.false_eq_true, if_false]
        exact h1
      · rcases List.mem_cons.mp hy with e | e
        · subst e; exact absurd hyf hk
        · exact h3 y e hyf
theorem nA {scope : Scope} {env : Env} (hf : ∀ y ∈ scope.names, y.2 = .free → ∃ c, env.cells.lookup y.1 = some c) :
    ∃ cl, closureFor scope env = pure cl ∧ (∀ x c, cl.lookup x = some c → env.cells.lookup x = some c) ∧ ∀ y ∈ scope.names, y.2 = .free → ∃ c, cl.lookup y.1 = some c := by
  obtain ⟨cl, h1, h2, h3, _⟩ := j4 scope.names [] hf
  refine ⟨cl, ?_, fun x c h => (h2 x c h).elim (fun z => by simp at z) id, h3⟩
  unfold closureFor
  have e : (forIn scope.names ([] : List (Str × Addr)) fun (x : Str × NameKind) (r : List (Str × Addr)) => if (x.2 == .free) = true then do let a ← cellOf env x.1; pure (ForInStep.yield ((x.1, a) :: r)) else pure (ForInStep.yield r)) = (pure cl : Sem _) := h1
  exact (congrArg (fun t : Sem (List (Str × Addr)) => t >>= fun r => pure r) e).trans rfl
def cxC (X : Cx) (N : List Str) (scope : Scope) (cl : List (Str × Addr)) (C : Addr) (s : Shared) (H : Hp) (ex : List Addr) : Cx where
  prog := X.prog
  w := X.w
  K := X.K
  mg := X.mg
  base := X.base
  A := X.A
  N := N
  s₀ := s
  H₀ := H
  env := compEnvC scope cl C X.env
  outer := X.stack
  stack := X.stack
  ex := ex
  fn := fun _ => false
  calm := X.calm
  pn := []
  xe := fun _ _ => False
def MTs (X : Cx) (ifs : List Expr) (cs : List TF) : Prop :=
  ∀ (pins : List (Addr × Obj)) (s : Shared) (σ : St) (H : Hp) (Q : Bool → Hp → Prop), Inv X pins σ H s → jB X.K rB (iQ cs) σ H Q →
    wpAny (model X.prog X.w) X.A (forIn ifs true fun c r => if r = true then do let ok ← isTrue c X.env (eval c X.env); pure (ForInStep.yield ok) else pure (ForInStep.yield r)) (TP X pins σ Q) X.xe s
theorem eI {X : Cx} : MTs X [] [] := fun pins s σ H Q I ⟨ρ, σd, hd, rs, p⟩ => wpAny_tests_nil ⟨H, I, p.here rs rfl⟩
theorem tj {X : Cx} {c : Expr} {t : TF} (h : MT X c t) : MTs X [c] [t] := fun pins s σ H Q I ⟨ρ, σd, hd, rs, p⟩ => wpAny_tests_one (h pins s σ H Q I ⟨ρ, σd, hd, rs, by
  have e : iQ [t] σd hd = t σd hd := by
    simp only [iQ]
    cases c : t σd hd with
    | ok b h' => cases b <;> simp
    | exc x h' => rfl
    | bad => rfl
  rw [e] at p
  exact p⟩)
theorem iV {env : Env} {x : Str} : ∀ {names : List (Str × NameKind)} {k : NameKind}, (names.map fun (n, k) => if (k == NameKind.free && env.scope.kind == .function && env.kindOf n == some .cell) then (n, NameKind.cell) else (n, k)).lookup x = some k →
    ∃ k0, names.lookup x = some k0 ∧ (k = k0 ∨ (k0 = .free ∧ k = .cell))
  | [], _, h => by simp at h
  | (n, k') :: r, k, h => by
    have ih := @iV env x r k
    have h' : List.lookup x ((if (k' == NameKind.free && env.scope.kind == .function && env.kindOf n == some .cell) = true then (n, NameKind.cell) else (n, k')) :: _) = some k := h
    cases hx : x == n with
    | true =>
      refine ⟨k', by simp [List.lookup_cons, hx], ?_⟩
      by_cases hc : (k' == NameKind.free && env.scope.kind == .function && env.kindOf n == some .cell) = true
      · rw [if_pos hc] at h'
        simp only [List.lookup_cons, hx, Option.some.injEq] at h'
        simp only [Bool.and_eq_true, beq_iff_eq] at hc
        exact .inr ⟨hc.1.1, h'.symm⟩
      · rw [if_neg hc] at h'
        simp only [List.lookup_cons, hx, Option.some.injEq] at h'
        exact .inl h'.symm
    | false =>
      have : List.lookup x ((n, k') :: r) = List.lookup x r := by simp [List.lookup_cons, hx]
      rw [this]
      refine ih ?_
      by_cases hc : (k' == NameKind.free && env.scope.kind == .function && env.kindOf n == some .cell) = true
      · rw [if_pos hc] at h'; simpa only [List.lookup_cons, hx] using h'
      · rw [if_neg hc] at h'; simpa only [List.lookup_cons, hx] using h'
theorem fD {x : Str} {k : NameKind} : ∀ {l : List (Str × NameKind)}, l.lookup x = some k → (x, k) ∈ l
  | [], h => by simp at h
  | (n, k') :: r, h => by
    rw [List.lookup_cons] at h
    cases e : x == n with
    | true =>
      rw [e] at h
      have : x = n := by simpa using e
      subst this
      cases h
      exact List.mem_cons_self
    | false => rw [e] at h; exact List.mem_cons_of_mem _ (fD h)
structure cr (X : Cx) (scope : Scope) (own capn : List Str) (caps : List Nat) : Prop where
  kind : scope.kind = .function
  cell : ∀ y ∈ scope.names, y.2 ≠ .cell
  names : ∀ y ∈ scope.names, y.2 = .local → scope.names.lookup y.1 = some .local
  free : ∀ y ∈ scope.names, y.2 = .free → X.env.kindOf y.1 = some .cell ∨ X.env.kindOf y.1 = some .free
  cap : ∀ (j : Nat) x, capn[j]? = some x → ∃ i, caps[j]? = some i ∧ X.N[i]? = some x ∧ scope.names.lookup x = some .free
  len : capn.length = caps.length
section
variable {X : Cx} {pins : List (Addr × Obj)} {σ : St} {H1 : Hp} {s2 : Shared} {scope : Scope} {own capn : List Str} {caps : List Nat} {cl : List (Str × Addr)} {C : Addr} {ex : List Addr}
def stC (own : List Str) (caps : List Nat) (σ : St) : St := List.replicate own.length none ++ caps.map fun i => (σ[i]?).join
theorem Gx (I : Inv X pins σ H1 s2) (S : cr X scope own capn caps) (hC : s2.heap.objs.size ≤ C) (hcl1 : ∀ x c, cl.lookup x = some c → X.env.cells.lookup x = some c) (hcl2 : ∀ y ∈ scope.names, y.2 = .free → ∃ c, cl.lookup y.1 = some c)
    (hf : ∀ b ∈ ex, m5 X pins H1 b) (hlt : ∀ b ∈ ex, b < s2.heap.objs.size) : (cxC X (own ++ capn) scope cl C s2 H1 ex).Ok where
  mod := I.ok.mod
  kind := S.kind
  glob := I.ok.glob
  blt := I.ok.blt
  above := hC
  inj := fun x y c h1 h2 => I.ok.inj x y c (hcl1 x c h1) (hcl1 y c h2)
  has := fun x hx => by
    have key : ∀ k, (relabel scope X.env).names.lookup x = some k → k = .cell ∨ k = .free → ∃ c, cl.lookup x = some c := fun k h hk => by
      obtain ⟨k0, h0, q⟩ := iV h
      have hm := fD h0
      have : k0 = .free := by
        rcases q with q | q
        · subst q
          rcases hk with e | e
          · exact absurd e (S.cell _ hm)
          · exact e
        · exact q.1
      exact hcl2 _ hm this
    rcases hx with h | h
    · exact key _ h (.inl rfl)
    · exact key _ h (.inr rfl)
  cab := fun x c h => by cases h
  hd := I.ok.hd
  frames := I.ok.frames
  stk := .inl rfl
  exf := fun b hb => by
    obtain ⟨f0, f1, f2, f3, f4, f5⟩ := hf b hb
    exact ⟨fun z => absurd (Nat.lt_of_lt_of_le (hlt b hb) hC) (by rw [z]; exact Nat.lt_irrefl _), fun x c e => f4 x c (hcl1 x c e)⟩
  bs := I.bs
  bsz := Nat.le_trans I.ok.bsz I.sz
  noex := fun b o e hb => by
    obtain ⟨f0, f1, f2, f3, f4, f5⟩ := hf b hb
    rcases f3 with z | z
    · exact I.ok.noex b o e z
    · exact absurd (Nat.lt_of_lt_of_le (Heap.lt_size (I.ok.bs b o e).1) z) (Nat.lt_irrefl _)
  exfs := fun b hb hs => by
    obtain ⟨f0, f1, f2, f3, f4, f5⟩ := hf b hb
    rcases List.mem_cons.mp (I.stkSub b hs) with z | z
    · exact f1 z
    · exact f2 z
  funs := I.stack
  frf := I.stkFree
theorem kB {env : Env} {x : Str} : ∀ {names : List (Str × NameKind)}, names.lookup x = some .free →
    (names.map fun (n, k) => if (k == NameKind.free && env.scope.kind == .function && env.kindOf n == some .cell) then (n, NameKind.cell) else (n, k)).lookup x = some .cell ∨
    (names.map fun (n, k) => if (k == NameKind.free && env.scope.kind == .function && env.kindOf n == some .cell) then (n, NameKind.cell) else (n, k)).lookup x = some .free
  | [], h => by simp at h
  | (n, k') :: r, h => by
    have ih := @kB env x r
    show List.lookup x ((if (k' == NameKind.free && env.scope.kind == .function && env.kindOf n == some .cell) = true then (n, NameKind.cell) else (n, k')) :: _) = _ ∨ List.lookup x ((if (k' == NameKind.free && env.scope.kind == .function && env.kindOf n == some .cell) = true then (n, NameKind.cell) else (n, k')) :: _) = _
    cases hx : x == n with
    | true =>
      simp only [List.lookup_cons, hx, Option.some.injEq] at h
      subst h
      by_cases hc : (NameKind.free == NameKind.free && env.scope.kind == .function && env.kindOf n == some .cell) = true
      · rw [if_pos hc]; exact .inl (by simp only [List.lookup_cons, hx])
      · rw [if_neg hc]; exact .inr (by simp only [List.lookup_cons, hx])
    | false =>
      simp only [List.lookup_cons, hx] at h
      by_cases hc : (k' == NameKind.free && env.scope.kind == .function && env.kindOf n == some .cell) = true
      · rw [if_pos hc]; simp only [List.lookup_cons, hx]; exact ih h
      · rw [if_neg hc]; simp only [List.lookup_cons, hx]; exact ih h
theorem Ej {i : Nat} {v : V} (h : (stC own caps σ)[i]? = some (some v)) : ∃ j k, i = own.length + j ∧ caps[j]? = some k ∧ σ[k]? = some (some v) := by
  unfold stC at h
  by_cases hi : i < own.length
  · rw [List.getElem?_append_left (by simpa using hi)] at h
    simp [hi] at h
  · rw [List.getElem?_append_right (by simpa using Nat.le_of_not_lt hi)] at h
    simp only [List.length_replicate, List.getElem?_map] at h
    cases c : caps[i - own.length]? with
    | none => rw [c] at h; cases h
    | some k =>
      rw [c] at h
      simp only [Option.map_some, Option.some.injEq] at h
      refine ⟨i - own.length, k, by omega, c, ?_⟩
      cases e : σ[k]? with
      | none => rw [e] at h; cases h
      | some o => rw [e] at h; simp only [Option.join_some] at h; rw [h]
theorem Aa (I : Inv X pins σ H1 s2) (S : cr X scope own capn caps) (hC : s2.heap.objs.size < C) (hcl1 : ∀ x c, cl.lookup x = some c → X.env.cells.lookup x = some c) (hcl2 : ∀ y ∈ scope.names, y.2 = .free → ∃ c, cl.lookup y.1 = some c)
    (hf : ∀ b ∈ ex, m5 X pins H1 b) (hlt : ∀ b ∈ ex, b < s2.heap.objs.size) {h1 : Heap} {m : Str → Option Value} {tk : Nat} (hn : h1.Ns C m) (hk : ∀ b o, s2.heap.get? b = some o → h1.get? b = some o)
    (hD : h1.get? s2.heap.objs.size = some { cls := .type "list", data := .seq #[] }) :
    Inv (cxC X (own ++ capn) scope cl C s2 H1 ex) [] (stC own caps σ) (upd H1 s2.heap.objs.size (.lst [])) { s2 with heap := h1, toks := tk } where
  ok := Gx I S (Nat.le_of_lt hC) hcl1 hcl2 hf hlt
  os := rfl
  bare := I.bare
  base := Un.laid hk (Nat.le_refl _) (I.hok.fresh (Nat.le_refl _))
  loc := by
    refine ⟨m, hn, fun i x v e1 e2 e3 => ?_⟩
    obtain ⟨j, k, rfl, hj, hk'⟩ := Ej e2
    have e1' : capn[j]? = some x := by
      have : (own ++ capn)[own.length + j]? = some x := e1
      rw [List.getElem?_append_right (by omega)] at this
      simpa using this
    obtain ⟨k2, q1, q2, q3⟩ := S.cap j x e1'
    rw [hj] at q1; cases q1
    have hm := fD q3
    have kd := S.free _ hm rfl
    obtain ⟨m0, hn0, hl⟩ := I.loc
    obtain ⟨u, r, lk⟩ := hl k x v q2 hk' (.inr kd)
    refine ⟨u, r, .inr ⟨kB q3, ?_⟩⟩
    rcases lk with ⟨z, _⟩ | ⟨_, c, hc, o, ho, hd⟩
    · rcases kd with e | e <;> (rw [z] at e; cases e)
    · obtain ⟨c', hc'⟩ := hcl2 _ hm rfl
      have := hcl1 _ _ hc'
      rw [hc] at this
      cases this
      exact ⟨c, hc', o, hk c o ho, hd⟩
  cell := fun x c e => by
    obtain ⟨v, o, ho, hd⟩ := I.cell x c (hcl1 x c e)
    exact ⟨v, o, hk c o ho, hd⟩
  free := by
    show upd H1 _ _ C = none
    rw [aA (Nat.ne_of_gt hC)]
    exact I.hok.fresh (Nat.le_of_lt hC)
  freeC := fun x c e => by
    obtain ⟨v, o, ho, hd⟩ := I.cell x c (hcl1 x c e)
    rw [aA (Nat.ne_of_lt (Heap.lt_size ho))]
    exact I.freeC x c (hcl1 x c e)
  pin := fun p hp => absurd (show p ∈ ([] : List (Addr × Obj)) from hp) (by simp)
  hok := I.hok.laid hk (Nat.le_refl _) ⟨Nat.zero_le _, [], 0, .nil, hD⟩
  len := by
    show (stC own caps σ).length = (own ++ capn).length
    simp [stC, S.len]
end
theorem RS.other {K : PySem.W.Frag} {ρ : List Addr} {H : Hp} {σd : Sd} {hd : Hd} {σ : St} {d : Addr} {ys zs : List V} (r : RS K ρ H σd hd σ) (h : H d = some (.lst ys)) (n : d ∉ ρ) : RS K ρ (upd H d (.lst zs)) σd hd σ ∧ Kp ρ H ρ (upd H d (.lst zs)) := by
  have k : Kp ρ H ρ (upd H d (.lst zs)) := ⟨fun _ _ h => h, fun a us e => by
    rw [aA (fun z => by rw [z, h] at e; cases e)]; exact e, fun a o u e => by
    rw [aA (fun z => by rw [z, h] at e; cases e)]; exact e, fun a φ e => by
    rw [aA (fun z => by rw [z, h] at e; cases e)]; exact e⟩
  refine ⟨⟨⟨r.hp.len, r.hp.nd, fun m c a h1 h2 => (r.hp.cel m c a h1 h2).mono k (aA fun z => n (by rw [← z]; exact List.mem_of_getElem? h2))⟩, r.st.mono k⟩, k⟩
theorem Ext.other {ρ ρ' : List Addr} {H H' : Hp} {d : Addr} {o : HO} (e : Ext ρ H ρ' H') (h : H d = none) : Ext ρ H ρ' (upd H' d o) :=
  ⟨e.pre, e.new, fun p u hp n => by rw [aA (a8 hp h)]; exact e.frame p u hp n⟩
theorem uT {nl : Nat} {caps : List Nat} {σd : Sd} {i : Nat} {d : D} (h : slot (hU nl caps σd) i = some d) : ∃ j k, i = nl + j ∧ caps[j]? = some k ∧ slot σd k = some d := by
  unfold hU at h
  simp only [slot] at h
  by_cases hi : i < nl
  · rw [List.getElem?_append_left (by simpa using hi)] at h
    simp [hi] at h
  · rw [List.getElem?_append_right (by simpa using Nat.le_of_not_lt hi)] at h
    simp only [List.length_replicate, List.getElem?_map] at h
    cases c : caps[i - nl]? with
    | none => rw [c] at h; cases h
    | some k =>
      rw [c] at h
      simp only [Option.map_some] at h
      refine ⟨i - nl, k, by omega, c, ?_⟩
      simp only [slot]
      revert h
      cases e : σd[k]? with
      | none => simp
      | some o => cases o <;> simp
structure FE (K : PySem.W.Frag) (ρ0 : List Addr) (H0 : Hp) (J : It) (l : List D) (G : Hd → Prop) : Prop where
  go : ∀ ρ H hd (i : Nat) d, Ext ρ0 H0 ρ H → RH K ρ H hd → G hd → l[i]? = some d → J.go i H ∧ ∀ x H', J.yld i H x H' → gc H H' ∧ RD K ρ H' d x
  stop : ∀ ρ H hd, Ext ρ0 H0 ρ H → RH K ρ H hd → G hd → J.stop l.length H
  sz : l.length ≤ sizeLine
theorem nz.g {K : PySem.W.Frag} {ρ : List Addr} {H : Hp} {J : It} {l : List D} {g : Option Nat} (w : nz K ρ H J l g) : FE K ρ H J l (iK g l) := ⟨w.go, w.stop, w.sz⟩
structure CD where
  i : Nat
  ys : List V
  acc : List D
  rest : List D
  ρ : List Addr
  σd : Sd
  hd : Hd
  H : Hp
  σ : St
structure CI (X : Cx) (own capn : List Str) (scope : Scope) (cl : List (Str × Addr)) (s2 : Shared) (C : Addr) (H1 : Hp) (ρ1 : List Addr) (fp : List Addr) (tn : Nat → Heap → Prop) (G : Hd → Prop) (g : GF) (cs : List TF) (e : EF) (l : List D) (hdF : Hd) (ds : List D) (d : CD) (s' : Shared) : Prop where
  le : d.i ≤ l.length
  inv : Inv (cxC X (own ++ capn) scope cl C s2 H1 fp) [] d.σ d.H s'
  st : tn d.i s'.heap
  fr : ∀ b ∈ fp, d.H b = none
  at' : d.H s2.heap.objs.size = some (.lst d.ys)
  out : s2.heap.objs.size ∉ d.ρ
  yl : d.ys.length ≤ d.i
  ex : Ext ρ1 H1 d.ρ d.H
  rs : RS X.K d.ρ d.H d.σd d.hd d.σ
  ac : RDs X.K d.ρ d.H d.acc d.ys
  run : iU G g cs e (l.drop d.i) d.σd d.hd = .ok d.rest hdF
  eq : d.acc ++ d.rest = ds
section
variable {X : Cx} {pins : List (Addr × Obj)} {σ : St} {H1 : Hp} {s2 : Shared} {scope : Scope} {own capn : List Str} {caps : List Nat} {cl : List (Str × Addr)}
theorem wP {ρ1 : List Addr} {σd : Sd} {hd1 : Hd} (S : cr X scope own capn caps) (r : RS X.K ρ1 H1 σd hd1 σ) {d : Addr} (hd : H1 d = none) : RS X.K ρ1 (upd H1 d (.lst [])) (hU own.length caps σd) hd1 (stC own caps σ) := by
  have sm := bF (o := HO.lst []) hd
  refine ⟨r.hp.same sm, ⟨by simp [stC, hU], fun i x e => ?_⟩⟩
  obtain ⟨j, k, rfl, hj, hs⟩ := uT e
  obtain ⟨v, h1, h2⟩ := r.st.at' k x hs
  refine ⟨v, ?_, h2.mono (Kp.same sm)⟩
  unfold stC
  rw [List.getElem?_append_right (by simp)]
  simp [hj, h1]
theorem rC {elt tg iter : Expr} {ifs : List Expr} {pos : Pos} {it : Addr} {fp : List Addr} {tn : Nat → Heap → Prop} {J : It} {l : List D} {G : Hd → Prop} {g : GF} {cs : List TF} {e : EF} {ρ1 : List Addr} {σd : Sd} {hd1 hdF : Hd} {ds : List D} {E : Value → Shared → Prop} {RR : Value → Addr → Result → Shared → Prop}
    (hc : X.calm = true) (S : cr X scope own capn caps) (hin : ∀ cl C s H ex, MG (cxC X (own ++ capn) scope cl C s H ex) tg g ∧ MTs (cxC X (own ++ capn) scope cl C s H ex) ifs cs ∧ ME (cxC X (own ++ capn) scope cl C s H ex) elt e)
    (I1 : Inv X pins σ H1 s2) (T : wF X.prog X.w X.K tg J fp it tn) (st0 : tn 0 s2.heap) (hf : ∀ b ∈ fp, m5 X pins H1 b) (rs1 : RS X.K ρ1 H1 σd hd1 σ) (wk : FE X.K ρ1 H1 J l G)
    (hcl1 : ∀ x c, cl.lookup x = some c → X.env.cells.lookup x = some c) (hcl2 : ∀ y ∈ scope.names, y.2 = .free → ∃ c, cl.lookup y.1 = some c)
    (run : iU G g cs e l (hU own.length caps σd) hd1 = .ok ds hdF)
    (hRR : ∀ C s' m H' ρ' vs, s2.heap.objs.size < C → s'.heap.Ns C m → Inv X pins σ H' s' → H' C = none → Ext ρ1 H1 ρ' H' → RH X.K ρ' H' hdF → H1 s2.heap.objs.size = none → H' s2.heap.objs.size = some (.lst vs) → s2.heap.objs.size ∉ ρ' → RDs X.K ρ' H' ds vs →
      RR (.ref s2.heap.objs.size) C (.ok .next) s') :
    wpAny (model X.prog X.w) X.A (newList []) (fun acc s₃ => wpAny (model X.prog X.w) X.A (newFunctionEnv scope X.env.globals cl [] X.env.qual none .none (some X.env)) (fun cenv s₄ =>
      codeAny (model X.prog X.w) X.A (.compStart (.ListComp elt [⟨tg, iter, ifs, 0⟩] scope pos) 0 (.ref it) acc { cenv with scope := relabel scope X.env }) (RR acc cenv.locals) s₄) E s₃) E s2 := by
  refine wpAny_newObj_type (wpAny_newFunctionEnv S.cell (by intro y hy; simp at hy) (fun h₁ hns₁ hsb₁ => ?_) S.kind)
  dsimp only at hns₁ hsb₁ ⊢
  generalize hH2 : s2.heap.push { cls := .type "list", dict := none, data := .seq ([] : List Value).toArray } = H2 at hns₁ hsb₁ ⊢
  have hC : H2.objs.size = s2.heap.objs.size + 1 := by rw [← hH2, Heap.size_push]
  have hDC : s2.heap.objs.size ≠ H2.objs.size := by rw [hC]; exact Nat.ne_of_lt (Nat.lt_succ_self _)
  have old : ∀ b o, s2.heap.get? b = some o → h₁.get? b = some o := fun b o e => hsb₁.extBut b o (by rw [hC]; exact Nat.ne_of_lt (Nat.lt_succ_of_lt (Heap.lt_size e))) (Heap.get?_push_of_some _ (hH2 ▸ Heap.get?_push_of_some _ e))
  have hacc : h₁.get? s2.heap.objs.size = some { cls := .type "list", data := .seq #[] } := hsb₁.extBut _ _ hDC (Heap.get?_push_of_some _ (hH2 ▸ Heap.get?_push_size _ rfl))
  have hlt : ∀ b ∈ fp, b < s2.heap.objs.size := fun b hb => by
    obtain ⟨o, ho, _⟩ := T.obj 0 _ st0 b hb
    exact Heap.lt_size ho
  have hCl : s2.heap.objs.size < H2.objs.size := by rw [hC]; exact Nat.lt_succ_self _
  have hD0 : H1 s2.heap.objs.size = none := I1.hok.fresh (Nat.le_refl _)
  have st1 : tn 0 h₁ := T.keep 0 _ _ st0 fun b hb o e => old b o e
  have hn1 : s2.heap.objs.size ∉ ρ1 := rs1.hp.free hD0
  obtain ⟨hG, hT, hE⟩ := hin cl H2.objs.size s2 H1 fp
  have I' := Aa (tk := s2.toks + ([] : List (Str × Value)).length) I1 S hCl hcl1 hcl2 hf hlt hns₁ old hacc
  have fpC : ∀ {pins' : List (Addr × Obj)} {H' : Hp}, (∀ b ∈ fp, H' b = none) → ∀ b ∈ fp, m5 (cxC X (own ++ capn) scope cl H2.objs.size s2 H1 fp) [] H' b := fun {pins' H'} hn b hb => by
    obtain ⟨f0, f1, f2, f3, f4, f5⟩ := hf b hb
    have lt := hlt b hb
    refine ⟨hn b hb, fun z => absurd lt (by rw [show b = H2.objs.size from z, hC]; exact Nat.not_lt.mpr (Nat.le_succ _)), fun z => ?_, .inl hb, fun x c e => f4 x c (hcl1 x c e), fun p hp => absurd (show p ∈ ([] : List (Addr × Obj)) from hp) (by simp)⟩
    rcases List.mem_cons.mp (I1.stkSub b z) with q | q
    · exact f1 q
    · exact f2 q
  have loop : ∀ s₃ : Shared, s₃ = { s2 with heap := h₁, toks := s2.toks + ([] : List (Str × Value)).length } →
      codeAny (model X.prog X.w) X.A (.compLoop (.ListComp elt [⟨tg, iter, ifs, 0⟩] scope pos) 0 (.ref it) (.ref s2.heap.objs.size) (compEnvC scope cl H2.objs.size X.env)) (RR (.ref s2.heap.objs.size) H2.objs.size) s₃ := by
    rintro s₃ rfl
    refine tf (E := fun _ _ => False) (fun _ _ z => z) (fun n s' => ∃ d : CD, n = l.length - d.i ∧ CI X own capn scope cl s2 H2.objs.size H1 ρ1 fp tn G g cs e l hdF ds d s') ?_ l.length
      ⟨⟨0, [], [], ds, ρ1, _, hd1, _, _⟩, by simp, Nat.zero_le _, I', st1, fun b hb => ?_, aT, hn1, Nat.le_refl _, Ext.same (bF hD0), wP S rs1 hD0, RDs.nil, by simpa using run, rfl⟩
    · rintro n s' ⟨⟨i, ys, acc, rest, ρ', σd', hd', H', σ'⟩, rfl, ci⟩
      have hil : i ≤ l.length := ci.le
      have I' : Inv (cxC X (own ++ capn) scope cl H2.objs.size s2 H1 fp) [] σ' H' s' := ci.inv
      have stn : tn i s'.heap := ci.st
      have hfp : ∀ b ∈ fp, H' b = none := ci.fr
      have hDy : H' s2.heap.objs.size = some (.lst ys) := ci.at'
      have hnD : s2.heap.objs.size ∉ ρ' := ci.out
      have hyl : ys.length ≤ i := ci.yl
      have ex : Ext ρ1 H1 ρ' H' := ci.ex
      have rs' : RS X.K ρ' H' σd' hd' σ' := ci.rs
      have racc : RDs X.K ρ' H' acc ys := ci.ac
      have hrun : iU G g cs e (l.drop i) σd' hd' = .ok rest hdF := ci.run
      have hds : acc ++ rest = ds := ci.eq
      by_cases hlt' : i < l.length
      · have hdi : l[i]? = some l[i] := by simp [hlt']
        rw [List.drop_eq_getElem_cons hlt'] at hrun
        unfold iU at hrun
        by_cases hh : G hd'
        · rw [if_pos hh] at hrun
          obtain ⟨go, yl⟩ := wk.go ρ' H' hd' i _ ex rs'.hp hh hdi
          cases c : g l[i] σd' with
          | none => rw [c] at hrun; cases hrun
          | some σd2 =>
            rw [c] at hrun
            simp only at hrun
            refine thn (T.item (cxC X (own ++ capn) scope cl H2.objs.size s2 H1 fp) rfl rfl rfl hc i [] s' σ' H' (fun _ _ => False) I' (fpC (pins' := []) hfp) stn go) fun r s₁ ⟨u, hr, h4⟩ => ?_
            subst hr
            refine thn h4 fun _ s5 ⟨x, H5, I5, r5, y5, st5, fr5⟩ => ?_
            obtain ⟨sm, rx⟩ := yl x H5 y5
            have I5' := I5.pinned (fpC (pins' := []) fr5) (T.obj _ _ st5)
            have rs5 := rs'.same sm
            have hDy5 := sm _ _ hDy
            refine thn (hG _ s5 σ' H5 x u (fun σ6 H6 => H6 = H5 ∧ RS X.K ρ' H5 σd2 hd' σ6) I5' r5 ⟨ρ', σd', hd', l[i], σd2, rs5, rx, c, fun σ6 rs6 => ⟨rfl, rs6⟩⟩) fun _ s6 ⟨σ6, H6, I6, hH6, rs6⟩ => ?_
            subst hH6
            cases c2 : iQ cs σd2 hd' with
            | exc z h7 => rw [c2] at hrun; cases hrun
            | bad => rw [c2] at hrun; cases hrun
            | ok b hd7 =>
              rw [c2] at hrun
              simp only [aI] at hrun
              refine thn (hT _ s6 σ6 H6 (fun b' H7 => b' = b ∧ ∃ ρ7, Ext ρ' H6 ρ7 H7 ∧ RS X.K ρ7 H7 σd2 hd7 σ6) I6 ⟨ρ', σd2, hd', rs6, by
                rw [c2]
                exact fun b' H7 ρ7 ex7 rs7 q => ⟨q.symm, ρ7, ex7, rs7⟩⟩) fun b' s7 ⟨H7, I7, hb', ρ7, ex7, rs7⟩ => ?_
              subst hb'
              have stay : ∀ {σ8 : St} {H8 : Hp} {s8 : Shared}, Inv (cxC X (own ++ capn) scope cl H2.objs.size s2 H1 fp) ([] ++ m6 fp s5.heap) σ8 H8 s8 → tn (i + 1) s8.heap ∧ ∀ b ∈ fp, H8 b = none := fun {σ8 H8 s8} I8 =>
                ⟨T.keep _ _ _ st5 fun b hb o e => (I8.pin (b, o) (List.mem_append_right _ (List.mem_append_right _ (gZ hb e)))).1, fun b hb => by
                  obtain ⟨o, e, d⟩ := T.obj _ _ st5 b hb
                  exact (I8.pin (b, o) (List.mem_append_right _ (List.mem_append_right _ (gZ hb e)))).2.1⟩
              have ex5 : Ext ρ' H' ρ7 H7 := (Ext.same sm).trans ex7
              have hDy7 : H7 s2.heap.objs.size = some (.lst ys) := ex5.frame _ _ hDy hnD
              have hnD7 := ex5.out hDy hnD
              have racc7 := racc.mono (rs'.hp.kp ex5)
              cases b' with
              | false =>
                simp only [Bool.false_eq_true, if_false] at hrun ⊢
                obtain ⟨st8, f8⟩ := stay I7
                exact ⟨l.length - (i + 1), by omega, ⟨i + 1, ys, acc, rest, ρ7, σd2, hd7, H7, σ6⟩, rfl, hlt', I7.unpinned, st8, f8, hDy7, hnD7, Nat.le_succ_of_le hyl, ex.trans ex5, rs7, racc7, hrun, hds⟩
              | true =>
                simp only [if_true] at hrun ⊢
                cases c3 : e σd2 hd7 with
                | exc z h7 => rw [c3] at hrun; cases hrun
                | bad => rw [c3] at hrun; cases hrun
                | ok d hd8 =>
                  rw [c3] at hrun
                  simp only [aI] at hrun
                  cases c4 : iU G g cs e (l.drop (i + 1)) σd2 hd8 with
                  | exc z h7 => rw [c4] at hrun; cases hrun
                  | bad => rw [c4] at hrun; cases hrun
                  | ok rest' hd9 =>
                    rw [c4] at hrun
                    simp only [aI, Res.ok.injEq] at hrun
                    obtain ⟨hrest, hF⟩ := hrun
                    subst hrest hF
                    refine thn (hE _ s7 σ6 H7 (fun v H8 => ∃ ρ8, Ext ρ7 H7 ρ8 H8 ∧ RS X.K ρ8 H8 σd2 hd8 σ6 ∧ RD X.K ρ8 H8 d v) I7 ⟨ρ7, σd2, hd7, rs7, by
                      rw [c3]
                      exact fun v H8 ρ8 ex8 rs8 q => ⟨ρ8, ex8, rs8, q⟩⟩) fun u8 s8 ⟨v8, H8, I8, r8, ρ8, ex8, rs8, rd8⟩ => ?_
                    have hDy8 : H8 s2.heap.objs.size = some (.lst ys) := ex8.frame _ _ hDy7 hnD7
                    have hnD8 := ex8.out hDy7 hnD7
                    refine thn (rl _ s8 σ6 H8 (.ref s2.heap.objs.size) [v8] (.ref s2.heap.objs.size) [u8] (fun _ H9 => H9 = upd H8 s2.heap.objs.size (.lst (ys ++ [v8]))) I8 rfl (.cons r8 .nil) ⟨_, ys, v8, rfl, rfl, hDy8, by have := wk.sz; omega, rfl⟩) fun u9 s9 ⟨v9, H9, I9, r9, q9⟩ => ?_
                    subst q9
                    obtain ⟨st9, f9⟩ := stay I9
                    obtain ⟨rs9, k9⟩ := rs8.other (zs := ys ++ [v8]) hDy8 hnD8
                    exact ⟨l.length - (i + 1), by omega, ⟨i + 1, ys ++ [v8], acc ++ [d], rest', ρ8, σd2, hd8, _, σ6⟩, rfl, hlt', I9.unpinned, st9, f9, aT, hnD8, by simp; exact hyl, (ex.trans (ex5.trans ex8)).other hD0, rs9,
                      ((racc7.mono (rs7.hp.kp ex8)).mono k9).append (RDs.cons (rd8.mono k9) RDs.nil), c4, by rw [← hds]; simp⟩
        · rw [if_neg hh] at hrun; cases hrun
      · have e0 : i = l.length := by omega
        subst e0
        rw [List.drop_length] at hrun
        unfold iU at hrun
        by_cases hh : G hd'
        · rw [if_pos hh] at hrun
          simp only [Res.ok.injEq] at hrun
          obtain ⟨hrest, hF⟩ := hrun
          subst hrest hF
          rw [List.append_nil] at hds
          subst hds
          refine thn (T.done (cxC X (own ++ capn) scope cl H2.objs.size s2 H1 fp) rfl rfl rfl hc _ [] s' σ' H' (fun _ _ => False) I' (fpC (pins' := []) hfp) stn (wk.stop ρ' H' hd' ex rs'.hp hh)) fun r s₁ ⟨hr, I4⟩ => ?_
          subst hr
          obtain ⟨m, hm, _⟩ := I4.loc
          refine hRR H2.objs.size s₁ m H' ρ' ys hCl hm ?_ I4.free ex rs'.hp hD0 hDy hnD racc
          exact I1.call' I4.os I4.base I4.hok I4.bare fun b hb => by
            obtain ⟨f0, f1, f2, f3, f4, f5⟩ := hf b hb
            exact ⟨f3, f1, f4, f5⟩
        · rw [if_neg hh] at hrun; cases hrun
    · show upd H1 _ _ b = none
      rw [aA (Nat.ne_of_lt (hlt b hb))]
      exact (hf b hb).1
  exact codeAny_compStart_list (loop _ rfl) (T.self _ 0 _ _ _ st1 (loop _ rfl))
end
section
variable {X : Cx} {pos : Pos} {scope : Scope} {own capn : List Str} {caps : List Nat}
theorem ei {elt tg iter : Expr} {ifs : List Expr} {f : IF} {g : GF} {cs : List TF} {e : EF} (hc : X.calm = true) (S : cr X scope own capn caps) (hi : MI X tg iter f)
    (hin : ∀ cl C s H ex, MG (cxC X (own ++ capn) scope cl C s H ex) tg g ∧ MTs (cxC X (own ++ capn) scope cl C s H ex) ifs cs ∧ ME (cxC X (own ++ capn) scope cl C s H ex) elt e)
    (hs : ∀ x, foldedSetIterable iter X.env x = pure x := by intro _; rfl) : MF X (.ListComp elt [⟨tg, iter, ifs, 0⟩] scope pos) (cg own.length caps f g cs e) := by
  intro pins s σ H Q I ⟨ρ, σd, hd, rs, p⟩
  rw [eval_ListComp]
  unfold cg at p
  cases c : f σd hd with
  | exc z h7 => rw [c] at p; exact p.elim
  | bad => rw [c] at p; exact p.elim
  | ok q hd1 =>
    obtain ⟨l, gd⟩ := q
    rw [c] at p
    simp only [aI] at p
    obtain ⟨cl, h1, hcl1, hcl2⟩ := nA (scope := scope) (env := X.env) fun y hy hyf => I.ok.has y.1 (S.free y hy hyf)
    refine wpAny_comprehension_free (use := none) rfl hs h1 S.kind S.names (thn (hi pins s σ H (fun J H1 => ∃ ρ1, Ext ρ H ρ1 H1 ∧ RS X.K ρ1 H1 σd hd1 σ ∧ nz X.K ρ1 H1 J l gd) I ⟨ρ, σd, hd, rs, by
      rw [c]
      exact fun J H' ρ' ex rs' wk => ⟨ρ', ex, rs', wk⟩⟩) fun v s1 h1 => thn h1 fun itv s2 h2 => ?_)
    obtain ⟨it, fp, tn, J, H1, rfl, I1, T, st0, hf, ρ1, ex1, rs1, wk⟩ := h2
    cases c2 : cw gd l g cs e l (hU own.length caps σd) hd1 with
    | exc z h7 => rw [c2] at p; exact p.elim
    | bad => rw [c2] at p; exact p.elim
    | ok ds hdF =>
      rw [c2] at p
      refine rC (RR := fun acc C => compPost (model X.prog X.w) X.A X.xe none (EP X pins σ Q) acc C) hc S hin I1 T st0 hf rs1 wk.g hcl1 hcl2 ((s0 _ _ _).symm.trans c2) fun C s' m H' ρ' vs hC hn I' hCn ex rh hD0 hD hnD rds => ?_
      refine ⟨m, hn, fun h' sb => ⟨.ref s2.heap.objs.size, H', ?_, rfl, ?_⟩⟩
      · refine I'.turned (it := C) (t' := s'.toks) (fun b o hb e => (sb.2 b hb).trans e) hCn ?_ (.inr (Nat.le_of_lt (Nat.lt_of_le_of_lt I1.sz hC))) (fun x c e z => ?_) fun q hq z => ?_
        · exact Nat.ne_of_gt (Nat.lt_trans I1.lt hC)
        · obtain ⟨v, o, ho, hd⟩ := I1.cell x c e
          exact absurd (Nat.lt_trans (Heap.lt_size ho) hC) (by rw [z]; exact Nat.lt_irrefl _)
        · exact absurd (Nat.lt_trans (Heap.lt_size (I1.pin q hq).1) hC) (by rw [z]; exact Nat.lt_irrefl _)
      · exact p _ vs H' ρ' (ex1.trans ex) (rs.ext (ex1.trans ex) rh) (ex1.fresh hD0 (rs1.hp.free hD0)) hD hnD rds
theorem zi {i : Nat} {x : Str} {pos' : Pos} {elt tg iter : Expr} {ifs : List Expr} {f : IF} {g : GF} {cs : List TF} {e : EF} {cpos : Pos} (hN : X.N.Nodup) (hi' : X.N[i]? = some x) (hx : Loc X.env.scope x) (hc : X.calm = true) (S : cr X scope own capn caps) (hi : MI X tg iter f)
    (hin : ∀ cl C s H ex, MG (cxC X (own ++ capn) scope cl C s H ex) tg g ∧ MTs (cxC X (own ++ capn) scope cl C s H ex) ifs cs ∧ ME (cxC X (own ++ capn) scope cl C s H ex) elt e)
    (hsw : swapsWith (.ListComp elt [⟨tg, iter, ifs, 0⟩] scope cpos) (some (.Name x pos')) pos.line X.env = pure true := by rfl)
    (hs : ∀ x, foldedSetIterable iter X.env x = pure x := by intro _; rfl) (hf' : X.fn x = true ∨ X.env.scope.names.lookup x = some .local := by first | exact .inl rfl | exact .inr rfl | assumption) :
    MS X (.Assign [.Name x pos'] (.ListComp elt [⟨tg, iter, ifs, 0⟩] scope cpos) pos) (aR (gN i) (cy (cg own.length caps f g cs e))) := by
  intro pins s σ H En I ⟨ρ, σd, hd, rs, p⟩
  rw [exec_Assign_Name_used _ _ _ _ hsw]
  refine wpAny_bind (wpAny_standAt ?_)
  show wpAny _ _ ((comprehension _ scope X.env _ (newList []) _ _ _ >>= fun _ => pure ()) >>= fun _ => pure Flow.next) _ _ _
  have p1 := bN.outE (σ := σ) p
  unfold cy cg at p1
  cases c : f σd hd with
  | exc z h7 => rw [c] at p1; exact p1.elim
  | bad => rw [c] at p1; exact p1.elim
  | ok q hd1 =>
    obtain ⟨l, gd⟩ := q
    rw [c] at p1
    simp only [aI] at p1
    obtain ⟨cl, h1, hcl1, hcl2⟩ := nA (scope := scope) (env := X.env) fun y hy hyf => I.ok.has y.1 (S.free y hy hyf)
    refine wpAny_bind (wpAny_bind (wpAny_comprehension_free (Q := fun _ s' => wpAny (model X.prog X.w) X.A (pure ()) (fun _ s' => wpAny (model X.prog X.w) X.A (pure Flow.next) (SP X pins En) X.xe s') X.xe s') (use := some (assign (.Name x pos') X.env)) rfl hs h1 S.kind S.names (thn (hi pins s σ H (fun J H1 => ∃ ρ1, Ext ρ H ρ1 H1 ∧ RS X.K ρ1 H1 σd hd1 σ ∧ nz X.K ρ1 H1 J l gd) I ⟨ρ, σd, hd, rs, by
      rw [c]
      exact fun J H' ρ' ex rs' wk => ⟨ρ', ex, rs', wk⟩⟩) fun v s1 h1 => thn h1 fun itv s2 h2 => ?_)))
    obtain ⟨it, fp, tn, J, H1, rfl, I1, T, st0, hf, ρ1, ex1, rs1, wk⟩ := h2
    cases c2 : cw gd l g cs e l (hU own.length caps σd) hd1 with
    | exc z h7 => rw [c2] at p1; exact p1.elim
    | bad => rw [c2] at p1; exact p1.elim
    | ok ds hdF =>
      rw [c2] at p1
      simp only [aI] at p1
      by_cases hz : ds.length ≤ SZ
      · rw [if_pos hz] at p1
        refine rC (RR := fun acc C => compPost (model X.prog X.w) X.A X.xe (some (assign (.Name x pos') X.env)) _ acc C) hc S hin I1 T st0 hf rs1 wk.g hcl1 hcl2 ((s0 _ _ _).symm.trans c2) fun C s' m H' ρ' vs hC hn I' hCn ex rh hD0 hD hnD rds => ?_
        refine wpAny_assign_Name (qX I' hN hi' hx (v := .ref s2.heap.objs.size) rfl (fun s'' I'' hsb => ?_) hf')
        have hCl : C ≠ X.env.locals := Nat.ne_of_gt (Nat.lt_trans I1.lt hC)
        have hCc : ∀ y c, X.env.cells.lookup y = some c → c ≠ C := fun y c e z => by
          obtain ⟨v, o, ho, hd⟩ := I1.cell y c e
          exact absurd (Nat.lt_trans (Heap.lt_size ho) hC) (by rw [z]; exact Nat.lt_irrefl _)
        refine ⟨m, ?_, fun h' sb => wpAny_pure (wpAny_pure ?_)⟩
        · obtain ⟨a, sa, ha⟩ := hsb
          refine hn.sameBut sa ?_
          rcases ha with z | z
          · rw [z]; exact hCl
          · exact Ne.symm (hCc _ _ z)
        · have I3 : Inv X pins (σ.set i (some (.ref s2.heap.objs.size))) H' { s'' with heap := h' } := I''.turned (it := C) (t' := s''.toks) (fun b o hb e => (sb.2 b hb).trans e) hCn hCl (.inr (Nat.le_of_lt (Nat.lt_of_le_of_lt I1.sz hC))) hCc fun q hq z =>
            absurd (Nat.lt_trans (Heap.lt_size (I1.pin q hq).1) hC) (by rw [z]; exact Nat.lt_irrefl _)
          have ex' : Ext ρ H ρ' H' := ex1.trans ex
          have rh' := rh.alloc hD hnD rds
          have hH0 : H s2.heap.objs.size = none := ex1.fresh hD0 (rs1.hp.free hD0)
          have exA : Ext ρ H (ρ' ++ [s2.heap.objs.size]) H' := ⟨by obtain ⟨t, rfl⟩ := ex'.pre; exact ⟨t ++ [s2.heap.objs.size], by simp⟩, fun a ha => by
            rcases List.mem_append.mp ha with z | z
            · exact ex'.new a z
            · simp at z; subst z; exact .inr hH0, ex'.frame⟩
          obtain ⟨ρ2, d2, hd2, e2, rs2, rd2, pn⟩ := p1 (.ref s2.heap.objs.size) H' (ρ' ++ [s2.heap.objs.size]) exA (rs.ext exA rh') (by
            simp only [rD, RD]
            refine ⟨s2.heap.objs.size, ?_, rfl⟩
            rw [← rh.len]
            simp)
          exact ⟨_, H', I3, pn _ H' ρ2 Ext.refl ⟨rs2.hp, rs2.st.set i rd2⟩⟩
      · rw [if_neg hz] at p1; exact p1.elim
end
end Fm
set_option Elab.async false
set_option linter.all false
set_option maxRecDepth 100000
namespace Fm
open PySem PySem.Spec L2 PyProof.Rows
mutual
def rfs (k : Nat) : D → Prop
  | .ref n => n < k
  | .tup l => iM k l
  | .lit l => iM k l
  | .exn _ l => iM k l
  | _ => True
def iM (k : Nat) : List D → Prop
  | [] => True
  | x :: xs => rfs k x ∧ iM k xs
end
section
variable {K : PySem.W.Frag} {ρ ρ' t : List Addr} {H H' : Hp} {hd hd' : Hd}
mutual
theorem RD.rfs : ∀ {d : D} {v : V}, RD K ρ H d v → Fm.rfs ρ.length d
  | .non, _, _ => by simp only [Fm.rfs]
  | .bl _, _, _ => by simp only [Fm.rfs]
  | .int _, _, _ => by simp only [Fm.rfs]
  | .str _, _, _ => by simp only [Fm.rfs]
  | .tup l, _, h => by
    simp only [RD] at h; obtain ⟨p, vs, _, _, h2⟩ := h
    simp only [Fm.rfs]; exact RDs.rfs h2
  | .lit l, _, h => by
    simp only [RD] at h; obtain ⟨p, vs, _, _, h2⟩ := h
    simp only [Fm.rfs]; exact RDs.rfs h2
  | .ref n, _, h => by
    simp only [RD] at h; obtain ⟨a, h1, _⟩ := h
    simp only [Fm.rfs]; exact (List.getElem?_eq_some_iff.mp h1).1
  | .exn _ _, _, h => by simp only [RD] at h; obtain ⟨rfl, _⟩ := h; simp only [Fm.rfs, Fm.iM]
theorem RDs.rfs : ∀ {l : List D} {vs : List V}, RDs K ρ H l vs → Fm.iM ρ.length l
  | [], _, _ => by simp only [Fm.iM]
  | d :: ds, _, h => by
    simp only [RDs] at h; obtain ⟨v, r, _, h1, h2⟩ := h
    simp only [Fm.iM]; exact ⟨RD.rfs h1, RDs.rfs h2⟩
end
mutual
theorem RD.cut : ∀ {d : D} {v : V}, RD K (ρ ++ t) H d v → Fm.rfs ρ.length d → RD K ρ H d v
  | .non, _, h, _ => by simp only [RD] at h ⊢; exact h
  | .bl _, _, h, _ => by simp only [RD] at h ⊢; exact h
  | .int _, _, h, _ => by simp only [RD] at h ⊢; exact h
  | .str _, _, h, _ => by simp only [RD] at h ⊢; exact h
  | .tup l, _, h, q => by
    simp only [RD] at h ⊢; simp only [Fm.rfs] at q
    obtain ⟨p, vs, e, h1, h2⟩ := h
    exact ⟨p, vs, e, h1, RDs.cut h2 q⟩
  | .lit l, _, h, q => by
    simp only [RD] at h ⊢; simp only [Fm.rfs] at q
    obtain ⟨p, vs, e, h1, h2⟩ := h
    exact ⟨p, vs, e, h1, RDs.cut h2 q⟩
  | .ref n, _, h, q => by
    simp only [RD] at h ⊢; simp only [Fm.rfs] at q
    obtain ⟨a, h1, h2⟩ := h
    exact ⟨a, by rwa [List.getElem?_append_left q] at h1, h2⟩
  | .exn _ _, _, h, _ => by simp only [RD] at h ⊢; exact h
theorem RDs.cut : ∀ {l : List D} {vs : List V}, RDs K (ρ ++ t) H l vs → Fm.iM ρ.length l → RDs K ρ H l vs
  | [], _, h, _ => by simp only [RDs] at h ⊢; exact h
  | d :: ds, _, h, q => by
    simp only [RDs] at h ⊢; simp only [Fm.iM] at q
    obtain ⟨v, r, e, h1, h2⟩ := h
    exact ⟨v, r, e, RD.cut h1 q.1, RDs.cut h2 q.2⟩
end
mutual
theorem nB {k : Nat} : ∀ {d : D}, pure? d = true → Fm.rfs k d
  | .non, _ => by simp only [Fm.rfs]
  | .bl _, _ => by simp only [Fm.rfs]
  | .int _, _ => by simp only [Fm.rfs]
  | .str _, _ => by simp only [Fm.rfs]
  | .tup l, h => by simp only [pure?] at h; simp only [Fm.rfs]; exact gx h
  | .lit l, h => by simp only [pure?] at h; simp only [Fm.rfs]; exact gx h
  | .exn _ l, h => by simp only [pure?] at h; simp only [Fm.rfs]; exact gx h
  | .ref _, h => by simp only [pure?] at h; cases h
theorem gx {k : Nat} : ∀ {l : List D}, fQ l = true → Fm.iM k l
  | [], _ => by simp only [Fm.iM]
  | x :: xs, h => by
    simp only [fQ, Bool.and_eq_true] at h
    simp only [Fm.iM]; exact ⟨nB h.1, gx h.2⟩
end
def Cg (k : Nat) : gv → Prop
  | .lst l => Fm.iM k l
  | .dct l => Fm.iM k (l.map (·.2))
theorem RC.rfs {c : gv} {a : Addr} (h : RC K ρ H c a) : Cg ρ.length c := by
  cases c with
  | lst l => obtain ⟨vs, _, h2⟩ := h; exact h2.rfs
  | dct l => obtain ⟨vs, _, _, h2⟩ := h; exact h2.rfs
theorem RC.cut {c : gv} {a : Addr} (h : RC K (ρ ++ t) H c a) (q : Cg ρ.length c) : RC K ρ H c a := by
  cases c with
  | lst l => obtain ⟨vs, h1, h2⟩ := h; exact ⟨vs, h1, h2.cut q⟩
  | dct l => obtain ⟨vs, h1, h2, h3⟩ := h; exact ⟨vs, h1, h2, h3.cut q⟩
theorem tm {k : Nat} {c : gv} (h : iR c = true) : Cg k c := by
  cases c with
  | lst l => exact gx h
  | dct l =>
    have : ∀ l : List (Int × D), (l.all fun p => pure? p.2) = true → Fm.iM k (l.map (·.2)) := by
      intro l
      induction l with
      | nil => intro _; simp only [List.map_nil, Fm.iM]
      | cons x l ih => intro h; simp only [List.all_cons, Bool.and_eq_true] at h; simp only [List.map_cons, Fm.iM]; exact ⟨nB h.1, ih h.2⟩
    exact this l h
theorem RH.back (r : RH K ρ H hd) (r' : RH K (ρ ++ t) H' hd') (o : zd hd hd') : RH K ρ H' (hd'.take hd.length) := by
  have hl : (ρ ++ t).length = hd'.length := r'.len
  refine ⟨by rw [List.length_take, ← hl, List.length_append, ← r.len]; omega, (List.nodup_append.mp r'.nd).1, fun n c a h1 h2 => ?_⟩
  have hn : n < hd.length := by rw [← r.len]; exact (List.getElem?_eq_some_iff.mp h2).1
  rw [List.getElem?_take_of_lt hn] at h1
  have q := r'.cel n c a h1 (by rw [List.getElem?_append_left (by rw [r.len]; exact hn)]; exact h2)
  refine q.cut ?_
  rcases o n c hn h1 with z | z
  · exact (r.cel n c a z h2).rfs
  · exact tm z
def kC (K : PySem.W.Frag) (ρ : List Addr) (H : Hp) (r : Res D) (Q : VK) : Prop := match r with
  | .ok d hd' => ∀ v H' ρ', Ext ρ H ρ' H' → RH K ρ' H' hd' → RD K ρ' H' d v → Q v H'
  | _ => False
def spF (K : PySem.W.Frag) (F : Fn) (np : Nat) : Sp := fun vs H Q _ => ∃ ρ hd ds, RH K ρ H hd ∧ RDs K ρ H ds vs ∧ ds.length = np ∧ kC K ρ H (F ds hd) Q
theorem Ext.short (e : Ext ρ H (ρ ++ t) H') : Ext ρ H ρ H' := ⟨⟨[], by simp⟩, fun _ h => .inl h, e.frame⟩
theorem kC.letGo {r : Res D} {Q : VK} (rh : RH K ρ H hd) (p : kC K ρ H (letGo hd r) Q) : kC K ρ H r Q := by
  cases r with
  | exc x h' => exact p
  | bad => exact p
  | ok d h' =>
    intro v H' ρ' ex rh' rd
    simp only [Fm.letGo] at p
    split at p
    · rename_i hc
      obtain ⟨t, rfl⟩ := ex.pre
      exact p v H' ρ ex.short (rh.back rh' hc.2) (rd.cut (nB hc.1))
    · exact p v H' ρ' ex rh' rd
theorem kC.runB {n : Nat} {b : SF} {ds : List D} {Q : VK} (p : kC K ρ H (runB n b ds hd) Q) : bN K ρ H (b (ds.map some ++ List.replicate (n - ds.length) none) hd) { nx := fun _ H' => Q .non H', rt := Q } := by
  unfold Fm.runB at p
  cases e : b (ds.map some ++ List.replicate (n - ds.length) none) hd with
  | nx σ h' => rw [e] at p; exact fun σ' H' ρ' ex rs => p .non H' ρ' ex rs.hp (by simp only [RD])
  | rt d h' => rw [e] at p; exact p
  | bk σ h' => rw [e] at p; exact p.elim
  | ct σ h' => rw [e] at p; exact p.elim
  | exc x σ h' => rw [e] at p; exact p.elim
  | bad => rw [e] at p; exact p.elim
theorem rE {N : List Str} {ds : List D} {vs : List V} (r : RDs K ρ H ds vs) : RSt K ρ H (ds.map some ++ List.replicate (N.length - ds.length) none) (L2.iP N vs) := by
  have hl := r.length
  refine ⟨by simp [L2.iP, hl], fun i d e => ?_⟩
  simp only [slot] at e
  by_cases hi : i < ds.length
  · rw [List.getElem?_append_left (by simpa using hi)] at e
    simp only [List.getElem?_map, List.getElem?_eq_getElem hi, Option.map_some] at e
    cases e
    obtain ⟨v, hv, q⟩ := r.get (i := i) (d := ds[i]) (by simp [hi])
    refine ⟨v, ?_, q⟩
    unfold L2.iP
    rw [List.getElem?_append_left (by simp; omega)]
    simp [hv]
  · rw [List.getElem?_append_right (by simpa using Nat.le_of_not_lt hi)] at e
    simp only [List.getElem?_replicate] at e
    by_cases hq : i - (List.map some ds).length < N.length - ds.length
    · simp only [hq, if_true] at e; cases e
    · simp only [hq, if_false] at e; cases e
end
structure Def (P : Program) (w : World) (K : PySem.W.Frag) (mg : Str → Option Value) (base : Heap) (x : Str) (k np : Nat) (F : Fn) : Prop where
  ex : ∃ f fd ps, mg x = some (.ref f) ∧ PySem.W.keepIn K (.ref f) = true ∧ iO K fd ps [] ∧ ce P w K mg base CX0 k f fd ps (spF K F np)
section
variable {P : Program} {w : World} {K : PySem.W.Frag} {mg : Str → Option Value} {base : Heap}
theorem cG {x : Str} {st : Stmt} {f : Addr} {fd : FuncData} {N ps : List Str} {k : Nat} {b : SF} (F : Fun K x x st f fd) (S : aX N ps (ak st))
    (body : ∀ (cdv : Value) (A : Around) (outer : List Env) (s : Shared) (H : Hp) (E : XK), fZ k (A.deeper (envOfC x (ak st) s.heap.objs.size f cdv)) → MSs (mF CX0 P w K mg base N x (ak st) f cdv A outer s H E).nox (aS st) b) :
    ce P w K mg base CX0 (k + 1) f fd ps (spF K (bE ps.length N.length b) ps.length) := by
  refine F.ok S (fun vs H Q E ⟨ρ, hd, ds, rh, rd, hl, p⟩ => by rw [← rd.length]; exact hl) fun cdv A outer s H vs Q E hr ⟨ρ, hd, ds, rh, rd, hl, p⟩ => ⟨_, body cdv A outer s H E hr, ρ, _, hd, ⟨rh, rE rd⟩, ?_⟩
  simp only [bE, hl, if_true] at p
  exact (kC.letGo rh p).runB
theorem Def.mk' {x : Str} {f : Addr} {fd : FuncData} {ps : List Str} {k np : Nat} {F : Fn} (hm : mg x = some (.ref f)) (hk : PySem.W.keepIn K (.ref f) = true) (hb : iO K fd ps []) (h : ce P w K mg base CX0 k f fd ps (spF K F np)) : Def P w K mg base x k np F := ⟨f, fd, ps, hm, hk, hb, h⟩
end
section
variable {X : Cx} {pos p : Pos}
theorem aw {x : Str} {k np : Nat} {F : Fn} {e : Expr} {es : List Expr} {r : LF} (hd : Def X.prog X.w X.K X.mg X.base x k np F) (hr : fZ k X.A) (hg : Gl X x) (ha : MA X (e :: es) r) (hnp : ∀ ds h d h', F ds h = .ok d h' → ds.length = np)
    (hdb : (x == ("__debug__" : Str)) = false := by decide) (he : starEach (e :: es) X.env = (false, eval e X.env) :: starEach es X.env := by rfl) (hpl : (backTo pos (starEach es X.env)).any (·.1) = false := by rfl) :
    ME X (.Call (.Name x p) (e :: es) [] pos) (au F r) := by
  obtain ⟨f, fd, ps, h1, h2, h3, h4⟩ := hd.ex
  refine PE.imp (y7 h4 hr hg h1 h2 h3 .nil Ij ha hdb he hpl) fun σ H Q ⟨ρ, σd, hd, rs, pp⟩ => ⟨ρ, σd, hd, rs, (bo.bind (R := rDs X.K) pp).imp fun vs H1 ⟨ρ1, ds, hd1, e1, rs1, rv, p1⟩ => ?_⟩
  rw [List.append_nil]
  cases c : F ds hd1 with
  | exc z h' => rw [c] at p1; exact p1.elim
  | bad => rw [c] at p1; exact p1.elim
  | ok d hd2 =>
    rw [c] at p1
    refine ⟨ρ1, hd1, ds, rs1.hp, rv, hnp _ _ _ _ c, ?_⟩
    rw [c]
    exact fun v H' ρ' ex rh rd => p1 v H' ρ' ex (rs1.ext ex rh) rd
theorem ax {np n : Nat} {b : SF} : ∀ ds h d h', bE np n b ds h = .ok d h' → ds.length = np := by
  intro ds h d h' e
  unfold bE at e
  split at e
  · assumption
  · cases e
end
theorem Iu {l : PySem.W.OpenLaw} {q : Program} {loose : List Str} {XP : (Str → Option Value) → Heap → Prop} {YP : World → Heap → Prop} {d : DefRec} {K : Params → PySem.W.Frag} {F : Fn} {k : Nat} {x : Str} (hn : l.most = some 63) (hdf : d.params.defaults = []) (hr : fZ k callerA)
    (hY : ∀ (w : World) (h : Heap), YP w h → (K w.params).In h)
    (hF : ∀ (w : World) (mg : Str → Option Value) (fa : Addr) (h : Heap), (K w.params).In h → h.Ns mainGlobals mg → mg d.name = some (.ref fa) →
      ∃ fd : FuncData, (∀ (s : Shared) (u : Value), BindsTo s fd ⟨[u], []⟩ [(x, u)]) ∧ ∀ base : Heap, (K w.params).In base → base.Ns mainGlobals mg → ce l.prog w (K w.params) mg base CX0 k fa fd [x] (spF (K w.params) F 1))
    (law : ∀ ns : List Int, ns.length ≤ 63 → ∃ h, F [.lit (ns.map .int)] [] = .ok (.bl true) h) :
    PySem.W.WalkO q loose XP YP l.row.toRowW d [] (fun f vs => PySem.call f vs) := by
  refine L2.Ed (n := 63) (k := k) (x := x) (CX := fun _ => CX0) (sp := fun w => spF (K w.params) F 1) hn (by decide) hdf hr hY hF (fun w H a ns hl hO hS => ?_) fun _ _ _ _ _ z => z
  obtain ⟨h, e⟩ := law ns hl
  have hL : mf (K w.params) H a (ns.map V.int) := by
    rcases hS with (z | ⟨o, z⟩) | z
    · rcases hO a with y | ⟨o, xs, y⟩ <;> (rw [z] at y; cases y)
    · exact .inl ⟨o, z⟩
    · exact .inr z
  have hI : RDs (K w.params) [] H (ns.map D.int) (ns.map V.int) := by
    clear hl hS e hL law
    induction ns with
    | nil => exact RDs.nil
    | cons n ns ih => exact RDs.cons (by simp only [RD]) ih
  refine ⟨[], [], [.lit (ns.map .int)], ⟨rfl, List.nodup_nil, fun n c a h1 => by simp at h1⟩, RDs.cons (by simp only [RD]; exact ⟨a, _, rfl, hL, hI⟩) RDs.nil, rfl, ?_⟩
  rw [e]
  intro v H' ρ' ex rh rd
  simpa only [RD] using rd
end Fm
set_option Elab.async false
set_option linter.all false
set_option maxRecDepth 100000
namespace Fm
open PySem PySem.Spec L2
open PyProof.Rows (Subscript_ tail_any)
def tyS : Ty → String
  | .int => "int" | .bool => "bool" | .tuple => "tuple" | .list => "list" | .str => "str"
theorem eV (t : Ty) : typeOf (.type (tyS t)) = pure (.type "type") := by
  cases t
  · exact F.isi_meta_int
  · exact F.isi_meta_bool
  · exact F.isi_meta_tuple
  · exact F.isi_meta_list
  · exact F.isi_meta_str
theorem Ek (t : Ty) : isSubtype (.type "NoneType") (.type (tyS t)) = pure false := by cases t <;> (rw [isSubtype_type]; kernel_rfl)
theorem Gy {t : Ty} (h : t ≠ .int) : isSubtype (.type "int") (.type (tyS t)) = pure false := by cases t <;> first | exact absurd rfl h | (rw [isSubtype_type]; kernel_rfl)
theorem El {t : Ty} (h : t ≠ .int) (h2 : t ≠ .bool) : isSubtype (.type "bool") (.type (tyS t)) = pure false := by cases t <;> first | exact absurd rfl h | exact absurd rfl h2 | (rw [isSubtype_type]; kernel_rfl)
theorem Gz {t : Ty} (h : t ≠ .str) : isSubtype (.type "str") (.type (tyS t)) = pure false := by cases t <;> first | exact absurd rfl h | (rw [isSubtype_type]; kernel_rfl)
theorem Ch {t : Ty} (h : t ≠ .tuple) : isSubtype (.type "tuple") (.type (tyS t)) = pure false := by cases t <;> first | exact absurd rfl h | (rw [isSubtype_type]; kernel_rfl)
theorem zj {t : Ty} (h : t ≠ .list) : isSubtype (.type "list") (.type (tyS t)) = pure false := by cases t <;> first | exact absurd rfl h | (rw [isSubtype_type]; kernel_rfl)
theorem Em (t : Ty) : isSubtype (.type "dict") (.type (tyS t)) = pure false := by cases t <;> (rw [isSubtype_type]; kernel_rfl)
theorem jf (t : Ty) : isSubtype (.type (tyS t)) (.type (tyS t)) = pure true := by cases t <;> (rw [isSubtype_type]; kernel_rfl)
theorem uU : isSubtype (.type "bool") (.type (tyS .int)) = pure true := by rw [isSubtype_type]; kernel_rfl
theorem mi {n : String} {t : Ty} (h : n ≠ tyS t) : (Value.type n == Value.type (tyS t)) = false := by
  rw [beq_eq_false_iff_ne]; intro e; cases e; exact h rfl
theorem wQ {a b : Ty} (h : a ≠ b) : (a == b) = false := by cases a <;> cases b <;> first | rfl | exact absurd rfl h
section
variable {X : Cx} {pos p : Pos}
theorem GA {pins : List (Addr × Obj)} {σ : St} {H : Hp} {s : Shared} {ρ : List Addr} {hd : Hd} {d : D} {v : V} {u : Value} {t : Ty} {b : Bool} {Q : Value → Shared → Prop} {E : Value → Shared → Prop} (I : Inv X pins σ H s) (rh : RH X.K ρ H hd) (rd : RD X.K ρ H d v) (r : bB v u) (e : sT hd t d = some b)
    (q : ∀ s', Inv X pins σ H s' → Q (.bool b) s') : wpAny (model X.prog X.w) X.A (call (.builtin "isinstance") [u, .type (tyS t)]) Q E s := by
  have q0 := q s I
  have q1 := q { s with toks := s.toks + 1 } (I.tok _)
  have yes : ∀ {n : String}, s.TypeIs u n → isSubtype (.type n) (.type (tyS t)) = pure true → Q (.bool true) s → wpAny (model X.prog X.w) X.A (call (.builtin "isinstance") [u, .type (tyS t)]) Q E s := fun h1 h2 h3 => call_isinstance (isinstance_true (eV t) h2) ⟨h1, h3⟩
  cases d <;> simp only [RD] at rd <;> simp only [sT] at e
  · subst rd; cases r; cases e
    exact call_isinstance (isinstance_false_none (by cases t <;> exact mi (by decide)) (eV t) (Ek t)) q1
  · subst rd; cases r
    by_cases h1 : t = .int
    · subst h1; cases e; exact yes (n := "bool") rfl uU q0
    · by_cases h2 : t = .bool
      · subst h2; cases e; exact yes (n := "bool") rfl (jf .bool) q0
      · rw [wQ h1, wQ h2] at e; cases e
        exact call_isinstance (isinstance_false_bool (by cases t <;> first | exact absurd rfl h1 | exact absurd rfl h2 | exact mi (by decide)) (eV t) (El h1 h2)) q1
  · subst rd; obtain ⟨tk, rfl⟩ := r
    by_cases h1 : t = .int
    · subst h1; cases e; exact yes (n := "int") rfl (jf .int) q0
    · rw [wQ h1] at e; cases e
      exact call_isinstance (isinstance_false_int (by cases t <;> first | exact absurd rfl h1 | exact mi (by decide)) (eV t) (Gy h1)) q1
  · subst rd; obtain ⟨tk, rfl⟩ := r
    by_cases h1 : t = .str
    · subst h1; cases e; exact yes (n := "str") rfl (jf .str) q0
    · rw [wQ h1] at e; cases e
      exact call_isinstance (isinstance_false_str (by cases t <;> first | exact absurd rfl h1 | exact mi (by decide)) (eV t) (Gz h1)) q1
  · obtain ⟨a, vs, rfl, ha, _⟩ := rd
    cases r
    obtain ⟨its, _, o, ho, hc, _⟩ := ia I.hok ha
    by_cases h1 : t = .tuple
    · subst h1; cases e; exact yes (n := "tuple") ⟨o, ho, hc⟩ (jf .tuple) q0
    · rw [wQ h1] at e; cases e
      exact call_isinstance (isinstance_false_tuple (by cases t <;> first | exact absurd rfl h1 | exact mi (by decide)) (eV t) (Ch h1)) ⟨⟨o, ho, hc⟩, q1⟩
  · rename_i n
    obtain ⟨a, ha, rfl⟩ := rd
    cases r
    cases c : hd[n]? with
    | none => rw [c] at e; cases e
    | some cell =>
      rw [c] at e
      cases cell with
      | lst l =>
        obtain ⟨vs, hv, _⟩ := rh.cel n _ a c ha
        obtain ⟨z, its, k, _, ho⟩ := I.hok a _ hv
        by_cases h1 : t = .list
        · subst h1; cases e; exact yes (n := "list") ⟨_, ho, rfl⟩ (jf .list) q0
        · simp only [wQ h1] at e; cases e
          exact call_isinstance (isinstance_false_list (by cases t <;> first | exact absurd rfl h1 | exact mi (by decide)) (eV t) (zj h1)) ⟨⟨_, ho, rfl⟩, q1⟩
      | dct l =>
        obtain ⟨vs, hv, _, _⟩ := rh.cel n _ a c ha
        obtain ⟨_, _, _, _, o, _, _, ho, ex, _⟩ := I.hok a _ hv
        cases e
        exact call_isinstance (isinstance_false_dict (by cases t <;> exact mi (by decide)) (eV t) (Em t)) ⟨⟨o, ho, ex.1⟩, q1⟩
  · obtain ⟨a, vs, rfl, ha, _⟩ := rd
    cases r
    obtain ⟨its, _, pl, _⟩ := I.list ha.sq
    obtain ⟨o, ho, hc, _⟩ := pl.isList
    by_cases h1 : t = .list
    · subst h1; cases e; exact yes (n := "list") ⟨o, ho, hc⟩ (jf .list) q0
    · simp only [wQ h1] at e; cases e
      exact call_isinstance (isinstance_false_list (by cases t <;> first | exact absurd rfl h1 | exact mi (by decide)) (eV t) (zj h1)) ⟨⟨o, ho, hc⟩, q1⟩
  · cases e
def Jo (K : PySem.W.Frag) (t : Ty) : List V → Hp → VK → Prop := fun xs H Q => ∃ ρ hd d v b, xs = [v, .ty (tyS t)] ∧ RH K ρ H hd ∧ RD K ρ H d v ∧ sT hd t d = some b ∧ Q (.bl b) H
theorem Ci (t : Ty) : eR X (.builtin "isinstance") (Jo X.K t) := by
  intro pins s σ H xs us Q I r h
  obtain ⟨ρ, hd, d, v, b, rfl, rh, rd, e, q⟩ := h
  obtain ⟨u, u2, rfl, ru, ru2⟩ := aV.two r
  cases (show u2 = Value.type (tyS t) from ru2)
  exact GA I rh rd ru e fun s' I' => ⟨.bl b, H, I', rfl, q⟩
theorem fS {t : Ty} {a : Expr} {fa : EF} {p2 : Pos} {n : Str} (hg : Gl X "isinstance") (hm : X.mg "isinstance" = none) (hg2 : Gl X n) (hm2 : X.mg n = none) (hv : bootBuiltins n = some (.type (tyS t))) (ha : ME X a fa)
    (hs : starEach [a, .Name n p2] X.env = (false, eval a X.env) :: starEach [.Name n p2] X.env := by rfl) (hs2 : starEach [.Name n p2] X.env = (false, eval (.Name n p2) X.env) :: starEach [] X.env := by rfl) (hn : n ≠ "__name__" := by decide) (hd : (n == ("__debug__" : Str)) = false := by decide) :
    ME X (.Call (.Name "isinstance" p) [a, .Name n p2] [] pos) (dR t fa) := by
  refine PE.imp (gu (Ci t) hg hm (by decide +kernel) (bD ha (bD (y4 (v := .ty (tyS t)) hg2 hm2 hv rfl hn hd) c9 hs2) hs) (he := hs)) fun σ H Q ⟨ρ, σd, hd, rs, pp⟩ => ⟨ρ, σd, hd, rs, (bo.bind (R := rD X.K) pp).imp fun v H1 ⟨ρ1, d, hd1, e1, rs1, rv, p1⟩ => ?_⟩
  cases c : sT hd1 t d with
  | none => simp only [c] at p1; exact p1.elim
  | some b => simp only [c] at p1; exact ⟨ρ1, hd1, d, v, b, rfl, rs1.hp, rv, c, p1.here rs1 (by simp only [rD, RD])⟩
theorem bz : OpR X (binaryOp .Add) (fun x y H Q => rI0 (fun i j => .int (i + j)) x y H Q ∨ uM X.K x y H Q) := F6.or y9
theorem bQ {K : PySem.W.Frag} : Og K bJ (fun x y H Q => rI0 (fun i j => .int (i + j)) x y H Q ∨ uM K x y H Q) := by
  intro ρ H σd hd σ d k v w Q rs rv rw' pp
  cases d <;> try exact pp.elim
  · cases k <;> try exact pp.elim
    simp only [RD] at rv rw'
    exact .inl ⟨_, _, rv, rw', pp.here rs (by simp only [rD, RD])⟩
  · rename_i l
    cases l with
    | nil => exact pp.elim
    | cons x xs =>
      cases k <;> try exact pp.elim
      rename_i ys
      simp only [bJ] at pp
      split at pp
      · rename_i hz
        simp only [RD] at rv rw'
        obtain ⟨a, vs, rfl, ha, rvs⟩ := rv
        obtain ⟨b, ws, rfl, hb, rws⟩ := rw'
        refine .inr ⟨a, b, vs, ws, rfl, rfl, SqT.of ha, SqT.of hb, ?_, ?_, fun z => ?_, fun _ q hq => ?_⟩
        · intro z; subst z; have := rvs.length; simp at this
        · rw [← rvs.length, ← rws.length]; exact ky hz
        · subst z
          have hy : ys = [] := by have := rws.length; simpa using this
          subst hy
          exact pp.here rs (by simp only [rD, RD]; exact ⟨a, vs, rfl, ha, by simpa using rvs⟩)
        · have sm := bF (o := HO.tup (vs ++ ws)) hq
          exact pp.at (Ext.same sm) (rs.same sm) (by simp only [rD, RD]; exact ⟨q, _, rfl, aT, (RDs.append rvs rws).mono (Kp.same sm)⟩)
      · exact pp.elim
theorem Eo {a : Expr} {la : LF} (hg : Gl X "list") (hm : X.mg "list" = none) (ha : MQ X a la) (hs : starEach [a] X.env = (false, eval a X.env) :: starEach [] X.env := by rfl) : MF X (.Call (.Name "list" p) [a] [] pos) la := by
  refine PE.imp (rj sR hg hm (by decide +kernel) (bD ha c9 hs) (he := hs)) fun σ H Q ⟨ρ, σd, hd, rs, pp⟩ => ⟨ρ, σd, hd, rs, ?_⟩
  cases e : la σd hd with
  | exc x h' => rw [e] at pp; exact pp
  | bad => rw [e] at pp; exact pp
  | ok l hd1 =>
    rw [e] at pp
    intro v H1 ρ1 e1 rs1 ⟨q, vs, hv, sq, rvs⟩
    subst hv
    exact ⟨q, vs, rfl, sq.imp id SqT.of, pp.mk e1 rs1 rvs⟩
def MO (X : Cx) (e : Option Expr) (f : OF) : Prop := PO X e (jB X.K rO f)
theorem gy : MO X none pNo := fun pins s σ H Q I ⟨ρ, σd, hd, rs, pp⟩ => D8 pins s σ H Q I (pp.here rs rfl)
theorem gC {e : Expr} {f : EF} (h : ME X e f) : MO X (some e) (pAt f) := fun pins s σ H Q I ⟨ρ, σd, hd, rs, pp⟩ => D9 h pins s σ H Q I ⟨ρ, σd, hd, rs, (bo.bind (R := rD X.K) pp).imp fun v H1 ⟨ρ1, d, hd1, e1, rs1, rv, p1⟩ => by
  cases d <;> try exact p1.elim
  simp only [rD, RD] at rv
  exact ⟨_, rv, p1.here rs1 rfl⟩⟩
theorem zk {K : PySem.W.Frag} {ρ : List Addr} {H : Hp} {l : List D} {vs : List V} {lo hi : Option Int} (r : RDs K ρ H l vs) : RDs K ρ H (cut l lo hi) (nh vs lo hi) := by
  have e : ∀ (n d : Nat) (o : Option Int), Fm.sIx n d o = HT.sIx n d o := fun n d o => by cases o <;> rfl
  unfold cut nh
  rw [r.length, e, e]
  exact (r.drop _).take _
theorem cB {a : Expr} {fa : EF} {lo hi : Option Expr} {fl fh : OF} {p2 : Pos} (ha : ME X a fa) (hl : MO X lo fl) (hh : MO X hi fh) : ME X (.Subscript a (.Slice lo hi none p2) pos) (bf fa fl fh) := by
  refine PE.imp (B2 (SlR.or Ea Gb) ha hl hh) fun σ H Q ⟨ρ, σd, hd, rs, pp⟩ => ?_
  unfold bf at pp
  refine ⟨ρ, σd, hd, rs, (bo.bind (R := rD X.K) pp).imp fun v H1 ⟨ρ1, d, hd1, e1, rs1, rv, p1⟩ => ?_⟩
  refine ⟨ρ1, σd, hd1, rs1, (bo.bind (R := rO) p1).imp fun o1 H2 ⟨ρ2, o1', hd2, e2, rs2, q2, p2⟩ => ?_⟩
  cases q2
  refine ⟨ρ2, σd, hd2, rs2, (bo.bind (R := rO) p2).imp fun o2 H3 ⟨ρ3, o2', hd3, e3, rs3, q3, p3⟩ => ?_⟩
  cases q3
  have rv3 := (rv.mono (rs1.hp.kp e2)).mono (rs2.hp.kp e3)
  have list : ∀ l, fP hd3 d = some l → bo X.K (rD X.K) ρ3 H3 σd σ (.ok (.ref hd3.length) (hd3 ++ [.lst (cut l o1 o2)])) Q → Ii X.K v o1 o2 H3 Q := fun l c p => by
    obtain ⟨q, vs, hv, sq, rvs⟩ := sY rs3.hp rv3 c
    refine ⟨q, vs, hv, sq, fun q' hq => ?_⟩
    have sm := bF (o := HO.lst (nh vs o1 o2)) hq
    have nq := rs3.hp.free hq
    have rh := (rs3.hp.same sm).alloc aT nq ((zk rvs).mono (Kp.same sm))
    have ex : Ext ρ3 H3 (ρ3 ++ [q']) (upd H3 q' (.lst (nh vs o1 o2))) := Ext.alloc hq
    refine p.at ex (rs3.ext ex rh) ?_
    simp only [rD, RD]
    exact ⟨q', by rw [← rs3.hp.len]; simp, rfl⟩
  cases d with
  | tup l =>
    simp only at p3
    split at p3
    · exact p3.elim
    · rename_i hw
      simp only [RD] at rv3
      obtain ⟨q, vs, rfl, hq, rvs⟩ := rv3
      have e : ∀ (n d : Nat) (o : Option Int), Fm.sIx n d o = HT.sIx n d o := fun n d o => by cases o <;> rfl
      refine .inr ⟨q, vs, rfl, SqT.of hq, by rw [← rvs.length, ← e, ← e]; exact hw, fun q' hq' => ?_⟩
      have sm := bF (o := HO.tup (nh vs o1 o2)) hq'
      exact p3.at (Ext.same sm) (rs3.same sm) (by simp only [rD, RD]; exact ⟨q', _, rfl, aT, (zk rvs).mono (Kp.same sm)⟩)
  | ref n =>
    simp only at p3
    cases c : fP hd3 (.ref n) with
    | none => rw [c] at p3; exact p3.elim
    | some l => rw [c] at p3; exact .inl (list l c p3)
  | lit l' =>
    simp only at p3
    cases c : fP hd3 (.lit l') with
    | none => rw [c] at p3; exact p3.elim
    | some l => rw [c] at p3; exact .inl (list l c p3)
  | _ => exact p3.elim
theorem tu {o e : Expr} {fo fe : EF} {apos cpos : Pos} (ho : ME X o fo) (he : ME X e fe) (hbase : attributeBase o "append" X.env (eval o X.env) = eval o X.env := by rfl)
    (hfew : ((backTo cpos (starEach [e] X.env)).all (fun x => !x.1) && (backToKw cpos (keywordEach [] X.env)).all (fun x => x.1.isSome)
      && decide (([e] : List Expr).length + ([] : List Keyword).length + (if ([] : List Keyword).isEmpty then 0 else 1) < 30)) = true := by rfl)
    (hline : (apos.endLine == cpos.line) = true := by rfl) (hs : starEach [e] X.env = (false, eval e X.env) :: starEach [] X.env := by rfl) :
    ME X (.Call (.Attribute o "append" apos) [e] [] cpos) (mH fo fe) := by
  refine PE.imp (B4 PySem.F.plainAttrs_list PySem.F.slot_list_append PySem.F.type_list_append rl ho (bD he c9 hs) hbase hfew hline hs) fun σ H Q ⟨ρ, σd, hd, rs, pp⟩ => ⟨ρ, σd, hd, rs, ?_⟩
  unfold mH at pp
  refine (bo.bind (R := rD X.K) pp).imp fun v H1 ⟨ρ1, d, hd1, e1, rs1, rv, p1⟩ => ?_
  cases d <;> try exact p1.elim
  rename_i n
  simp only [rD, RD] at rv
  obtain ⟨a, ha, rfl⟩ := rv
  simp only at p1
  cases c1 : hd1[n]? with
  | none => rw [c1] at p1; exact p1.elim
  | some cell1 =>
    rw [c1] at p1
    cases cell1 with
    | dct l => exact p1.elim
    | lst l1 =>
      obtain ⟨vs, hv, _⟩ := rs1.hp.cel n _ a c1 ha
      simp only at p1
      refine ⟨.inl ⟨rfl, vs, SqL.of hv⟩, ρ1, σd, hd1, rs1, (bo.bind (R := rD X.K) p1).imp fun w H2 ⟨ρ2, k, hd2, e2, rs2, rw', p2⟩ => ?_⟩
      simp only [Gk] at p2
      cases c : hd2[n]? with
      | none => rw [c] at p2; exact p2.elim
      | some cell =>
        rw [c] at p2
        cases cell with
        | dct l => exact p2.elim
        | lst l =>
          simp only at p2
          split at p2
          · rename_i hz
            have ha2 := e2.get ha
            obtain ⟨vs2, hv2, rvs2⟩ := rs2.hp.cel n _ a c ha2
            refine ⟨a, vs2, w, rfl, rfl, hv2, ?_, ?_⟩
            · rw [← rvs2.length]; exact Nat.lt_of_lt_of_le hz (by rw [sizeLine_eq]; decide)
            · have hn : n < hd2.length := (List.getElem?_eq_some_iff.mp c).1
              have rh := rs2.hp.write ha2 hn (RDs.append rvs2 (RDs.cons rw' RDs.nil))
              have ex : Ext ρ2 H2 ρ2 (upd H2 a (.lst (vs2 ++ [w]))) := Ext.write (List.mem_of_getElem? ha2)
              exact p2.at ex (rs2.ext ex rh) (by simp only [rD, RD])
          · exact p2.elim
end
end Fm
set_option Elab.async false
set_option linter.all false
set_option maxRecDepth 100000
namespace Fm
open PySem PySem.Spec L2
open AutoSeq1 (wpAny_loadPart')
open PyProof.Rows (Call_)
theorem Ep {a b : String} (h : Value.type a = Value.type b) (n : a ≠ b) : False := by injection h with h; exact n h
theorem iW (l : Addr) (items : Array Value) (n : Nat) (dct : Option Addr) (sl : Array (Option Value)) :
    Meets (Builtin.«enumerate.__new__» ⟨[.type "enumerate", .ref l], []⟩) (fun _ R s => s.heap.get? l = some { cls := .type "tuple", dict := dct, data := .seq items n, slots := sl } ∧
      R (.ok (.ret (.ref (s.heap.push { cls := .type "tuple_iterator", data := .fields #[.ref l, .int 0 0] }).objs.size)))
        { s with heap := (s.heap.push { cls := .type "tuple_iterator", data := .fields #[.ref l, .int 0 0] }).push { cls := .type "enumerate", data := .fields #[.none, .bool false, .ref s.heap.objs.size, rawInt 0, .none, .none] } }) :=
  .of_wp fun prog w A R s h => by
    obtain ⟨hp, g, d, tk, os⟩ := s; obtain ⟨hl, h⟩ := h
    have hsub := sub_enumerate
    have hL : Heap.IsTuple (Shared.heap ⟨hp, g, d, tk, os⟩) l items := ⟨_, hl, rfl, n, rfl⟩
    wp_walk using wpAny_loadPart' hl
    refine wpAny_stack_any fun st => wpAny_pure ?_
    split
    · rename_i c _ _ _ _ _
      cases (c == Value.type "enumerate")
      · wp_walk using wpAny_loadPart' hl, wpAny_pyIter_tuple hL
        exact ⟨_, rfl, h⟩
      · wp_walk using wpAny_loadPart' hl, wpAny_pyIter_tuple hL
        exact ⟨_, rfl, h⟩
    · wp_walk using wpAny_loadPart' hl, wpAny_pyIter_tuple hL
      exact ⟨_, rfl, h⟩
section
variable {prog : Program} {w : World} {A : Around} {E : Value → Shared → Prop} {s : Shared}
theorem iX {l : Addr} {items : Array Value} {Q : Value → Shared → Prop} (hL : s.heap.IsTuple l items)
    (h : ∀ h', IsEnum h' (s.heap.objs.size + 1) s.heap.objs.size 0 .none → h'.IsTupleIter s.heap.objs.size l 0 → h'.objs.size = s.heap.objs.size + 2 →
      (∀ b o, s.heap.get? b = some o → h'.get? b = some o) → Q (.ref (s.heap.objs.size + 1)) { s with heap := h' }) :
    wpAny (model prog w) A (call (.type "enumerate") [.ref l]) Q E s := by
  obtain ⟨⟨c, dct, dt, sl⟩, hl, hc, n, hd⟩ := hL
  replace hc : c = .type "tuple" := hc
  replace hd : dt = .seq items n := hd
  subst hc hd
  refine callType_new F.called_enumerate (by decide) (F.typeCall_enumerate_1 _) (F.newCall_enumerate_1 _) (fun obj => F.args_object_init_2 obj _) F.entry_enumerate_new
    (iW l items n dct sl) ⟨hl, ?_⟩
  have hz : (s.heap.push { cls := .type "tuple_iterator", data := .fields #[.ref l, .int 0 0] }).objs.size = s.heap.objs.size + 1 := Heap.size_push ..
  show _ ∧ _
  rw [hz]
  have he : IsEnum ((s.heap.push { cls := .type "tuple_iterator", data := .fields #[.ref l, .int 0 0] }).push
      { cls := .type "enumerate", data := .fields #[.none, .bool false, .ref s.heap.objs.size, rawInt 0, .none, .none] }) (s.heap.objs.size + 1) s.heap.objs.size 0 .none := by
    have := Heap.get?_push_size (s.heap.push { cls := .type "tuple_iterator", data := .fields #[.ref l, .int 0 0] })
      (o := { cls := .type "enumerate", data := .fields #[.none, .bool false, .ref s.heap.objs.size, rawInt 0, .none, .none] }) rfl
    rw [hz] at this; exact this
  refine ⟨⟨_, he, rfl⟩, h _ he ⟨_, Heap.get?_push_of_some _ (Heap.get?_push_size _ rfl), rfl, rfl⟩ (by rw [Heap.size_push, hz]) fun b o x => Heap.get?_push_of_some _ (Heap.get?_push_of_some _ x)⟩
theorem c8 {it l : Addr} {i : Nat} {items : Array Value} {x : Value} {Q : Value → Shared → Prop} (hit : s.heap.IsTupleIter it l i)
    (hl : s.heap.IsTuple l items) (hx : items[i]? = some x)
    (hQ : ∀ h', h'.IsTupleIter it l (i + 1) → Heap.SameBut it s.heap h' → Q x { s with heap := h' }) :
    wpAny (model prog w) A (Builtin.SmallTypes.nextOf (.ref it)) Q E s := by
  obtain ⟨o, ho, hc, hd⟩ := id hit
  obtain ⟨ol, hol, _, nl, hdl⟩ := hl
  unfold Builtin.SmallTypes.nextOf
  refine wpAny_bind (wpAny_callSpecial?_slot (name := Str.ofString "__next__") hit.typeIs F.slot_tuple_iterator_next
    (wpAny_call_entry F.slot_tuple_iterator_next hit.typeIs F.entry_tuple_iterator_next ?_ (F.args_tuple_iterator_next_1 _)))
  show wpAny _ _ (field (.ref it) 0 >>= _) _ _ s
  refine wpAny_bind (wpAny_field ho hd (x := .ref l) rfl ?_)
  show wpAny _ _ (if (Value.ref l == Value.none) = true then _ else _) _ _ s
  rw [if_neg (show ¬ ((Value.ref l == Value.none) = true) from Bool.false_ne_true)]
  show wpAny _ _ (field (.ref it) 1 >>= _) _ _ s
  refine wpAny_bind (wpAny_field ho hd (x := .int i 0) rfl ?_)
  show wpAny _ _ (seqItems? (.ref l) >>= _) _ _ s
  refine wpAny_bind (wpAny_seqItems hol hdl ?_)
  simp only [Int.toNat_natCast, hx]
  refine wpAny_bind (wpAny_setField ho hd (by simp) (wpAny_pure ⟨x, rfl, wpAny_pure (hQ _ ?_ (Heap.SameBut.update ..))⟩))
  exact ⟨_, Heap.get?_update_self _ ho (Obj.isFreed_of_fields (Obj.data_mapFields hd _)), (Obj.cls_mapFields ..).trans hc, by
    rw [Obj.data_mapFields hd]; simp [rawInt]⟩
theorem eB {it l : Addr} {i : Nat} {items : Array Value} {Q : Value → Shared → Prop} (hh : A.handled = none)
    (hit : s.heap.IsTupleIter it l i) (hl : s.heap.IsTuple l items) (hx : items[i]? = none)
    (hE : ∀ h' e, Heap.ExtBut it s.heap h' → (∃ o, h'.get? e = some o ∧ o.cls = .type "StopIteration") → E (.ref e) { s with heap := h' }) :
    wpAny (model prog w) A (Builtin.SmallTypes.nextOf (.ref it)) Q E s := by
  obtain ⟨o, ho, hc, hd⟩ := id hit
  obtain ⟨ol, hol, _, nl, hdl⟩ := hl
  unfold Builtin.SmallTypes.nextOf
  refine wpAny_bind (wpAny_callSpecial?_slot (name := Str.ofString "__next__") hit.typeIs F.slot_tuple_iterator_next
    (wpAny_call_entry F.slot_tuple_iterator_next hit.typeIs F.entry_tuple_iterator_next ?_ (F.args_tuple_iterator_next_1 _)))
  show wpAny _ _ (field (.ref it) 0 >>= _) _ _ s
  refine wpAny_bind (wpAny_field ho hd (x := .ref l) rfl ?_)
  show wpAny _ _ (if (Value.ref l == Value.none) = true then _ else _) _ _ s
  rw [if_neg (show ¬ ((Value.ref l == Value.none) = true) from Bool.false_ne_true)]
  show wpAny _ _ (field (.ref it) 1 >>= _) _ _ s
  refine wpAny_bind (wpAny_field ho hd (x := .int i 0) rfl ?_)
  show wpAny _ _ (seqItems? (.ref l) >>= _) _ _ s
  refine wpAny_bind (wpAny_seqItems hol hdl ?_)
  simp only [Int.toNat_natCast, hx]
  refine wpAny_bind (wpAny_rule (wpAny_bind (wpAny_setField ho hd (by simp) ?_)))
  show wpAny _ _ (newExc (.type "StopIteration") [] >>= _) _ _ _
  refine wpAny_bind ?_
  simp only [newExc, newTuple]
  refine wpAny_bind (wpAny_newObj_type ?_ (by size_fits))
  refine wpAny_bind (m := firstArgMember _ _) (wpAny_of_eq (a := Value.none) (by first | rfl | (simp only [firstArgMember]; rfl)) ?_)
  refine wpAny_newObj_type ?_ (by size_fits)
  simp only [raiseNew]
  refine wpAny_bind (wpAny_handled ?_)
  first | rw [show A.in1.handled = none from hh] | rw [hh]
  refine wpAny_bind (wpAny_pure (wpAny_throw ?_))
  exact hE _ _ (((Heap.SameBut.update ..).extBut.push _).push _) ⟨_, Heap.get?_push_size _ rfl, rfl⟩
end
theorem mj {prog : Program} {w : World} {A : Around} (hh : A.handled = none) (it l : Addr) (hne : l ≠ it) (items : Array Value) :
    Draws prog w A it [it, l] items.size (fun i v => items[i]? = some v) (fun i h => h.IsTupleIter it l i ∧ h.IsTuple l items) where
  live := fun _ _ st => let ⟨o, ho, _⟩ := st.1; ⟨o, ho⟩
  frame := fun _ _ _ st hk => ⟨st.1.at fun o e => hk it (by simp) o e, let ⟨o, ho, r⟩ := st.2; ⟨o, hk l (by simp) o ho, r⟩⟩
  item := fun i s Q E hi st hQ => by
    have hx : items[i]? = some items[i] := by simp [hi]
    refine c8 st.1 st.2 hx fun h' hit' hs' => ?_
    refine hQ _ h' s.toks hx ⟨hit', ?_⟩ hs'
    obtain ⟨o, ho, r⟩ := st.2
    exact ⟨o, (hs'.2 l hne).trans ho, r⟩
  done := fun s Q E st hE => eB hh st.1 st.2 (by simp) hE
def Ite (K : PySem.W.Frag) (a : Addr) : It :=
  ⟨fun i H => ∃ xs x, SqT K H a xs ∧ xs[i]? = some x, fun i H x H' => ∃ q v, x = .ref q ∧ H q = none ∧ H' = upd H q (.tup [.int (i : Nat), v]) ∧ ∀ xs, SqT K H a xs → xs[i]? = some v, fun i H => ∃ xs, SqT K H a xs ∧ xs.length = i⟩
theorem Ab {P : Program} {w : World} {K : PySem.W.Frag} {elts : List Expr} {k : Nat} {pos : Pos} (e it a : Addr) : wF P w K (.Tuple elts k pos) (Ite K a) [e, it] e (fun i h => (∃ old, IsEnum h e it (i : Nat) old) ∧ h.IsTupleIter it a i) where
  mem := by simp
  obj := fun i h st b hb => by
    obtain ⟨⟨old, he⟩, o, ho, hc, hd⟩ := st
    rcases List.mem_cons.mp hb with rfl | hb
    · exact ⟨_, he, fun v z => by
        have z' : Data.fields _ = Data.cell v := z
        cases z'⟩
    · have : b = it := by simpa using hb
      subst this
      exact ⟨o, ho, fun v z => by rw [hd] at z; cases z⟩
  keep := fun i h h' st kk => by
    obtain ⟨⟨old, he⟩, st⟩ := st
    exact ⟨⟨old, kk e (by simp) _ he⟩, st.at fun o x => kk it (by simp) o x⟩
  item := by
    intro X hP hw hK hc i pins s σ H E I hf st hg
    subst hP hw hK
    obtain ⟨⟨old, he⟩, hit⟩ := st
    obtain ⟨xs, x, hq, hx⟩ := hg
    obtain ⟨its, rv, p, hz⟩ := I.tuple hq
    have ht : s.heap.IsTuple a its.toArray := p
    obtain ⟨oi, hoi, hci, hdi⟩ := id hit
    obtain ⟨oa, hoa, hca, na, hda⟩ := id ht
    have hei : e ≠ it := fun z => by
      subst z
      have he' : s.heap.get? e = _ := he
      rw [hoi] at he'; cases he'; exact Ep hci (by decide)
    have hea : e ≠ a := fun z => by
      subst z
      have he' : s.heap.get? e = _ := he
      rw [hoa] at he'; cases he'; exact Ep hca (by decide)
    have hai : a ≠ it := fun z => by
      subst z
      rw [hoi] at hoa; cases hoa; rw [hci] at hca; exact Ep hca (by decide)
    obtain ⟨e0, e1, e2, e3, e4, e5⟩ := hf e (by simp)
    obtain ⟨f0, f1, f2, f3, f4, f5⟩ := hf it (by simp)
    have hlt : i < its.toArray.size := by
      have := (List.getElem?_eq_some_iff.mp hx).1
      have hl := rv.length
      simp; omega
    refine wpAny_pyNext_enum_itemD (mj (prog := X.prog) (w := X.w) (A := X.A.in1) (I.ok.hd hc) it a hai its.toArray) he ⟨hit, ht⟩ hlt hei (by simp; exact ⟨hei, hea⟩) fun y h' tk hy heo hst' htup hsz hk => ?_
    refine ⟨_, rfl, wpAny_letOwnedTupleGo_enum heo fun h2 he2 hs2 => ?_⟩
    replace hs2 : Heap.SameBut e h' h2 := hs2
    obtain ⟨u, hu, ru⟩ := rv.get hx
    have hyu : y = u := by
      have : its.toArray[i]? = some u := by simpa using hu
      rw [hy] at this; exact Option.some.inj this
    subst hyu
    have elt : e < s.heap.objs.size := Heap.lt_size he
    have ilt : it < s.heap.objs.size := Heap.lt_size hoi
    have hN : H s.heap.objs.size = none := I.hok.fresh (Nat.le_refl _)
    have keep : ∀ b o, b ≠ e → b ≠ it → s.heap.get? b = some o → h2.get? b = some o := fun b o b1 b2 q => (hs2.2 b b1).trans (hk b o b1 b2 q)
    have htup2 : h2.get? s.heap.objs.size = some { cls := .type "tuple", data := .seq #[.int i tk, y] } := (hs2.2 _ (Nat.ne_of_gt elt)).trans htup
    have nch : ∀ b, b ∉ ([e, it] : List Addr) → b ≠ e ∧ b ≠ it := fun b hb => by simpa using hb
    refine ⟨.ref s.heap.objs.size, upd H s.heap.objs.size (.tup [.int (i : Nat), x]), ?_, rfl, ⟨_, x, rfl, hN, rfl, fun ys hys => by rw [I.tuple_inj hys hq]; exact hx⟩, ⟨⟨_, by simpa using he2⟩, hst'.1.extBut hs2.extBut (Ne.symm hei)⟩, fun b hb => ?_⟩
    · suffices I2 : L2.Inv X pins σ (upd H s.heap.objs.size (.tup [.int (i : Nat), x])) { s with heap := h2, gens := s.gens, drawn := s.drawn, toks := tk + 1 } from I2
      refine I.step (g' := s.gens) (d' := s.drawn) (t' := tk + 1) (ch := [e, it]) (fun b hb => ?_) (fun b o _ _ hb q _ => keep b o (nch b hb).1 (nch b hb).2 q) (fun b o _ _ hb q _ => ⟨o.slots, keep b o (nch b hb).1 (nch b hb).2 q⟩) (fun b o _ q n => ?_) (fun b o hb q => ⟨o, keep b o (nch b hb).1 (nch b hb).2 q⟩)
        (fun b ys q => ?_) (fun b o u q => ?_) (fun b ps q => ⟨#[], ?_⟩) (fun m hm => ?_) (fun b u q => ?_) I.bare
      · rcases List.mem_cons.mp hb with rfl | hb
        · exact ⟨e3, e1, e4, e5⟩
        · have : b = it := by simpa using hb
          subst this
          exact ⟨f3, f1, f4, f5⟩
      · rw [aA (Nat.ne_of_lt (Heap.lt_size q))]; exact n
      · rw [aA (a8 q hN)]; exact q
      · rw [aA (a8 q hN)]; exact q
      · rw [aA (a8 q hN), q]; simp
      · obtain ⟨o, es, ep, ho, r⟩ := hm
        exact ⟨o, es, ep, keep _ o (Ne.symm e1) (Ne.symm f1) ho, r⟩
      · by_cases hb : b = s.heap.objs.size
        · subst hb
          rw [aT] at q
          cases q
          exact ⟨by show 2 ≤ sizeLine; rw [sizeLine_eq]; decide, [.int i tk, y], .cons ⟨tk, rfl⟩ (.cons ru .nil), _, htup2, rfl, _, rfl⟩
        · rw [aA hb] at q
          have ne1 : ∀ c v, H c = some v → c ≠ e := fun c v z w => by rw [w, e0] at z; cases z
          have ne2 : ∀ c v, H c = some v → c ≠ it := fun c v z w => by rw [w, f0] at z; cases z
          refine (I.hok b u q).stay (fun c v hc' z => ?_) (fun c z => by rw [aA (a8 z hN)]; exact z) fun c ys z => by rw [aA (a8 z hN)]; exact z
          rcases hc' with w | w
          · subst w; exact keep c v (ne1 c _ q) (ne2 c _ q) z
          · exact keep c v (ne1 c _ w) (ne2 c _ w) z
    · have : b ≠ s.heap.objs.size := by
        rcases List.mem_cons.mp hb with rfl | hb
        · exact Nat.ne_of_lt elt
        · have : b = it := by simpa using hb
          subst this
          exact Nat.ne_of_lt ilt
      rw [aA this]
      exact (hf b hb).1
  done := by
    intro X hP hw hK hc i pins s σ H E I hf st hg
    subst hP hw hK
    obtain ⟨⟨old, he⟩, hit⟩ := st
    obtain ⟨xs, hq, hx⟩ := hg
    obtain ⟨its, rv, p, hz⟩ := I.tuple hq
    have ht : s.heap.IsTuple a its.toArray := p
    obtain ⟨oi, hoi, hci, hdi⟩ := id hit
    obtain ⟨oa, hoa, hca, na, hda⟩ := id ht
    have hai : a ≠ it := fun z => by
      subst z
      rw [hoi] at hoa; cases hoa; rw [hci] at hca; exact Ep hca (by decide)
    obtain ⟨f0, f1, f2, f3, f4, f5⟩ := hf it (by simp)
    have hsz : its.toArray.size = i := by have := rv.length; simp; omega
    refine wpAny_pyNext_enum_endD (mj (prog := X.prog) (w := X.w) (A := X.A.in1) (I.ok.hd hc) it a hai its.toArray) he ⟨by rw [hsz]; exact hit, ht⟩ fun h' hx' => ⟨rfl, I.turned (t' := s.toks) (fun b o hb e => hx' b o hb e) f0 f1 f3 f4 f5⟩
  self := fun _ _ _ _ _ st h => by
    obtain ⟨⟨old, he⟩, _⟩ := st
    exact wpAny_pyIter_enum he h
section
variable {X : Cx} {pos p tp : Pos} {elts : List Expr} {tk : Nat}
def iEn (K : PySem.W.Frag) (ta : TE) : TI := fun σ H R => ta σ H fun x H1 => ∃ a xs, x = .ref a ∧ SqT K H1 a xs ∧ (xs.length ≤ sizeLine → R (Ite K a) H1)
theorem Er {a : Expr} {ta : TE} (hg : Gl X "enumerate") (hm : X.mg "enumerate" = none) (ha : PE X a ta) (hs : starEach [a] X.env = [(false, eval a X.env)] := by rfl) : PI X (.Tuple elts tk tp) (.Call (.Name "enumerate" p) [a] [] pos) (iEn X.K ta) := by
  intro pins s σ H R I h
  have hpa := bD ha c9 hs
  refine Call_ (lu I hg hm PyProof.Rows.boot_enumerate (PyProof.Rows.callWith_type1 (thn (hpa pos pins s σ H (fun vs H1 => ∃ a xs, vs = [.ref a] ∧ SqT X.K H1 a xs ∧ (xs.length ≤ sizeLine → R (Ite X.K a) H1)) I ?_) fun us s1 ⟨vs, H1, I1, r1, q1⟩ => ?_) hs rfl))
  · show ta σ H fun x H1 => _
    have key : ∀ (x : V) (H1 : Hp), (∃ a xs, x = .ref a ∧ SqT X.K H1 a xs ∧ (xs.length ≤ sizeLine → R (Ite X.K a) H1)) = (∃ a xs, [x] = [.ref a] ∧ SqT X.K H1 a xs ∧ (xs.length ≤ sizeLine → R (Ite X.K a) H1)) := fun x H1 => by simp
    have h' : ta σ H fun x H1 => ∃ a xs, x = .ref a ∧ SqT X.K H1 a xs ∧ (xs.length ≤ sizeLine → R (Ite X.K a) H1) := h
    simp only [key] at h'
    exact h'
  · obtain ⟨a, xs, e, hq, q⟩ := q1
    subst e
    obtain ⟨u, rfl, ru⟩ := aV.one r1
    cases (show u = Value.ref a from ru)
    obtain ⟨its, rv, pt, hz⟩ := I1.tuple hq
    refine iX (show s1.heap.IsTuple a its.toArray from pt) fun h' he hit hsz hk => ?_
    refine wpAny_pyIter_enum (s := { s1 with heap := h' }) he ?_
    have I2 : Inv X pins σ H1 { s1 with heap := h' } := I1.kept (t' := s1.toks) hk
    refine ⟨s1.heap.objs.size + 1, [s1.heap.objs.size + 1, s1.heap.objs.size], _, _, H1, rfl, I2, Ab (s1.heap.objs.size + 1) s1.heap.objs.size a, ⟨⟨_, by simpa using he⟩, hit⟩, fun b hb => ?_, q hz⟩
    have hb' : s1.heap.objs.size ≤ b := by
      rcases List.mem_cons.mp hb with e | hb
      · rw [e]; exact Nat.le_succ _
      · have : b = s1.heap.objs.size := by simpa using hb
        rw [this]; exact Nat.le_refl _
    exact I1.fpOk hb' (I1.hok.fresh hb')
theorem Ac {K : PySem.W.Frag} {ρ : List Addr} {H : Hp} {hd : Hd} {q : Addr} {l : List D} {vs : List V} (r : RH K ρ H hd) (hq : H q = some (.tup vs)) (rv : RDs K ρ H l vs) (hz : vs.length ≤ sizeLine) :
    nz K ρ H (Ite K q) ((List.range l.length).zip l |>.map fun p => .tup [.int (p.1 : Nat), p.2]) none where
  go := fun ρ' H' hd' i d ex rh _ hi => by
    have k := r.kp ex
    obtain ⟨hil, hi2⟩ := List.getElem?_eq_some_iff.mp hi
    have hl : i < l.length := by simpa using hil
    have hd : d = .tup [.int (i : Nat), l[i]] := by rw [← hi2]; simp
    subst hd
    obtain ⟨v, hv, rd⟩ := (rv.mono k).get (i := i) (d := l[i]) (by simp [hl])
    have sq : SqT K H' q vs := SqT.of (k.tup q vs hq)
    refine ⟨⟨vs, v, sq, hv⟩, fun x H2 y => ?_⟩
    obtain ⟨q2, v2, rfl, hn, rfl, y⟩ := y
    have := y vs sq
    rw [hv] at this
    cases this
    have sm := bF (o := HO.tup [.int (i : Nat), v]) hn
    refine ⟨sm, ?_⟩
    simp only [RD]
    exact ⟨q2, _, rfl, aT, RDs.cons (by simp only [RD]) (RDs.cons (rd.mono (Kp.same sm)) RDs.nil)⟩
  stop := fun ρ' H' hd' ex rh _ => ⟨vs, SqT.of ((r.kp ex).tup q vs hq), by rw [← rv.length]; simp⟩
  sz := by
    have := rv.length
    simp; omega
theorem zm {a : Expr} {f : EF} (hg : Gl X "enumerate") (hm : X.mg "enumerate" = none) (ha : ME X a f) (hs : starEach [a] X.env = [(false, eval a X.env)] := by rfl) : MI X (.Tuple elts tk tp) (.Call (.Name "enumerate" p) [a] [] pos) (rq f) := by
  refine PI.imp (Er hg hm ha hs) fun σ H R ⟨ρ, σd, hd, rs, pp⟩ => ⟨ρ, σd, hd, rs, ?_⟩
  unfold rq at pp
  cases e : f σd hd with
  | exc x h1 => rw [e] at pp; exact pp
  | bad => rw [e] at pp; exact pp
  | ok d hd1 =>
    rw [e] at pp
    simp only [aI] at pp
    intro v H1 ρ1 ex1 rs1 rv
    cases d <;> try exact pp.elim
    rename_i l
    simp only [rD, RD] at rv
    obtain ⟨q, vs, rfl, hq, rvs⟩ := rv
    exact ⟨q, vs, rfl, SqT.of hq, fun hz => pp _ H1 ρ1 ex1 rs1 (Ac rs1.hp hq rvs hz)⟩
end
end Fm
set_option Elab.async false
set_option linter.all false
set_option maxRecDepth 100000
namespace Fm
open PySem PySem.Spec L2 PySem.W PyProof.Rows
section
variable {prog : Program} {w : World} {A : Around} {E : Value → Shared → Prop} {s : Shared}
theorem wR {a : Addr} {vs : List Value} {n : Nat} {P : PySem.Fin → Shared → Prop} (ho : s.heap.get? a = some (seqObj "list" vs.toArray n)) (h2 : vs.length < 2)
    (h : P (.done (.ret .none)) { s with heap := sortedHeap s.heap a vs vs.toArray }) : wpAny (model prog w) A (Builtin.«list.sort» ⟨[.ref a], []⟩) P E s := by
  rw [list_sort_plain]
  have ha : a < s.heap.objs.size := Heap.lt_size ho
  refine wpAny_bind (listItems_at ho rfl ?_)
  refine wpAny_bind (listUpdate_at ho rfl ?_)
  obtain ⟨e1, ho1⟩ : ∃ e1, (s.heap.update a (Obj.mapSeq fun _ => #[])).get? a = some (seqObj "list" #[] e1) := ⟨_, get?_update_seq ho (fun _ => #[])⟩
  refine wpAny_bind (seqEpoch_at ho1 rfl ?_)
  refine wpAny_bind (wpAny_newTuple ?_)
  refine wpAny_bind (wpAny_newList ?_)
  refine wpAny_holding ?_
  have ho6 : (((s.heap.update a (Obj.mapSeq fun _ => #[])).push (seqObj "tuple" vs.toArray 0)).push (seqObj "list" #[] 0)).get? a = some (seqObj "list" #[] e1) := by
    rw [Heap.get?_push_ne _ _ _ (by rw [size_push', Heap.size_update]; exact Nat.ne_of_lt (Nat.lt_succ_of_lt ha)), Heap.get?_push_ne _ _ _ (by rw [Heap.size_update]; exact Nat.ne_of_lt ha)]
    exact ho1
  show wpAny (model prog w) A _ P E { s with heap := ((s.heap.update a (Obj.mapSeq fun _ => #[])).push (seqObj "tuple" vs.toArray 0)).push (seqObj "list" #[] 0) }
  dsimp only
  have hsz : vs.toArray.size = vs.length := by simp
  have h2' : vs.toArray.size < 2 := by rw [hsz]; exact h2
  rw [if_pos h2', if_pos h2']
  refine wpAny_bind (wpAny_pure ?_)
  rw [StateT.run_pure]
  refine wpAny_bind (wpAny_pure ?_)
  dsimp only
  refine wpAny_bind (seqEpoch_at ho6 rfl ?_)
  refine wpAny_bind (listUpdate_at ho6 rfl ?_ (hsz2 := by rw [Array.size_map]; show (pairsOf vs).size ≤ _; rw [pairsOf_size, sizeLine_eq]; omega))
  simp only [bne_self_eq_false, Bool.false_eq_true, if_false]
  have e : (arrOf (SortSt.mk' general' (vs.toArray.zip vs.toArray) #[] 7 none)).map (·.2) = vs.toArray := by
    show (vs.toArray.zip vs.toArray).map (·.2) = vs.toArray
    apply Array.ext
    · simp
    · intro i h1 h2
      simp
  refine wpAny_pure ?_
  have h' := h
  unfold sortedHeap at h'
  rw [e]
  exact h'
theorem GB {Q : Bool → Shared → Prop} : ∀ (ns ms : List Int) {xs ys : List Value} (i : Nat), IntsAre xs ns → IntsAre ys ms → Q (Fm.bV ns ms) s → KatLex prog w A true (decide (xs.length < ys.length)) Q (xs.zip ys) i s := by
  intro ns
  induction ns with
  | nil =>
    intro ms xs ys i hx hy h
    cases hx
    cases ms with
    | nil => cases hy; exact h
    | cons m ms =>
      cases hy
      have h' : Q true s := h
      exact h'
  | cons n ns ih =>
    intro ms xs ys i hx hy h
    cases hx with
    | cons _ t r =>
      cases ms with
      | nil =>
        cases hy
        have h' : Q false s := h
        exact h'
      | cons m ms =>
        cases hy with
        | cons _ t' r' =>
          rename_i xs ys
          refine kat_cons (SeqAt.EqAt.int_int n t m t' prog w _ _ ?_)
          by_cases e : n = m
          · subst e
            rw [show (n == n) = true by simp]
            refine kat_yes ?_
            have h' : Q (Fm.bV ns ms) s := by simpa [Fm.bV] using h
            have := ih ms (i + 1) r r' h'
            have e2 : decide ((Value.int n t :: xs).length < (Value.int n t' :: ys).length) = decide (xs.length < ys.length) := by simp
            rw [e2]
            exact this
          · rw [show (n == m) = false by simpa using e]
            refine kat_no ?_
            have h' : Q (decide (n < m)) s := by simpa [Fm.bV, e] using h
            cases i with
            | zero => exact oneLt_int h'
            | succ i =>
              have : (true && (i + 1 == 0)) = false := by simp
              rw [this]
              exact kat_one _ _ (lt_int (by first | exact ⟨_, rfl, h'⟩ | exact h'))
end
theorem GC {h : Heap} {a : Addr} {m m' : Str → Option Value} (x : h.Ns a m) (y : h.Ns a m') : m = m' := by
  obtain ⟨o, es, ep, ho, hd, _, r⟩ := x
  obtain ⟨o', es', ep', ho', hd', _, r'⟩ := y
  rw [ho] at ho'; cases ho'
  rw [hd] at hd'; cases hd'
  funext z
  rw [← r z, ← r' z]
inductive cx (H : Hp) : List V → List (List Int) → Prop
  | nil : cx H [] []
  | cons {a : Addr} {r : List Int} {vs : List V} {rs : List (List Int)} : H a = some (.tup (r.map V.int)) → cx H vs rs → cx H (.ref a :: vs) (r :: rs)
theorem cx.get {H : Hp} : ∀ {vs : List V} {rs : List (List Int)} {i : Nat} {v : V}, cx H vs rs → vs[i]? = some v → ∃ a, v = .ref a ∧ H a = some (.tup ((rs.getD i []).map V.int))
  | _, _, _, _, .nil, e => by simp at e
  | _, _, 0, _, .cons h t, e => by simp at e; subst e; exact ⟨_, rfl, h⟩
  | _, _, i + 1, v, .cons h t, e => by
    obtain ⟨a, h1, h2⟩ := cx.get (i := i) (v := v) t (by simpa using e)
    exact ⟨a, h1, by simpa using h2⟩
theorem cx.length {H : Hp} : ∀ {vs : List V} {rs : List (List Int)}, cx H vs rs → vs.length = rs.length
  | _, _, .nil => rfl
  | _, _, .cons _ t => by simp [cx.length t]
section
variable {X : Cx} {pos p : Pos}
theorem tw {i : Int} {u : Value} (r : bB (.int i) u) : ∃ t, u = .int i t := r
end
end Fm
set_option Elab.async false
set_option linter.all false
set_option maxRecDepth 100000
namespace Fm
open PySem PySem.Spec L2
section
variable {X : Cx}
theorem mv (i : Nat) {x : Str} {pos : Pos} (hN : X.N[i]? = some x := by rfl) (hv : Vis X.env.scope x := by first | exact Or.inl rfl | exact Or.inr (Or.inl rfl) | exact Or.inr (Or.inr rfl)) (hd : (x == ("__debug__" : Str)) = false := by decide)
    (hcd : (x == ("__classdict__" : Str)) = false := by decide) : ME X (.Name x pos) (aa i) := Gm hN hv hd hcd
end
theorem d9 {k : Nat} {A : Around} (r : fZ k A) : A.units + 24 < cLine := by have := r.un; omega
def bj (X : Cx) : List (Str × NameKind) → Prop
  | [] => True
  | y :: r => (y.2 = .free → X.env.kindOf y.1 = some .cell ∨ X.env.kindOf y.1 = some .free) ∧ bj X r
def bW (X : Cx) (scope : Scope) : List Str → List Nat → Prop
  | [], [] => True
  | x :: xs, i :: is => (X.N[i]? = some x ∧ scope.names.lookup x = some .free) ∧ bW X scope xs is
  | _, _ => False
theorem bj.get {X : Cx} : ∀ {l : List (Str × NameKind)}, bj X l → ∀ y ∈ l, y.2 = .free → X.env.kindOf y.1 = some .cell ∨ X.env.kindOf y.1 = some .free
  | [], _, y, hy => by simp at hy
  | z :: r, h, y, hy => by
    rcases List.mem_cons.mp hy with rfl | hy
    · exact h.1
    · exact bj.get h.2 y hy
theorem bW.get {X : Cx} {scope : Scope} : ∀ {capn : List Str} {caps : List Nat}, bW X scope capn caps → (∀ (j : Nat) x, capn[j]? = some x → ∃ i, caps[j]? = some i ∧ X.N[i]? = some x ∧ scope.names.lookup x = some .free) ∧ capn.length = caps.length
  | [], [], _ => ⟨fun j x e => by simp at e, rfl⟩
  | x :: xs, i :: is, h => by
    obtain ⟨h1, h2⟩ := bW.get h.2
    refine ⟨fun j y e => ?_, by simp [h2]⟩
    cases j with
    | zero => simp at e; subst e; exact ⟨i, rfl, h.1⟩
    | succ j => exact h1 j y (by simpa using e)
  | [], _ :: _, h => h.elim
  | _ :: _, [], h => h.elim
theorem bj.nil {X : Cx} : bj X [] := trivial
theorem bj.cons {X : Cx} {y : Str × NameKind} {r : List (Str × NameKind)} (h : y.2 = .free → X.env.kindOf y.1 = some .cell ∨ X.env.kindOf y.1 = some .free) (t : bj X r) : bj X (y :: r) := ⟨h, t⟩
theorem bW.nil {X : Cx} {scope : Scope} : bW X scope [] [] := trivial
theorem bW.cons {X : Cx} {scope : Scope} {x : Str} {xs : List Str} {i : Nat} {is : List Nat} (h1 : X.N[i]? = some x) (h2 : scope.names.lookup x = some .free) (t : bW X scope xs is) : bW X scope (x :: xs) (i :: is) := ⟨⟨h1, h2⟩, t⟩
theorem cr.mk' {X : Cx} {scope : Scope} {own capn : List Str} {caps : List Nat} (k : scope.kind = .function) (c : ∀ y ∈ scope.names, y.2 ≠ .cell) (n : ∀ y ∈ scope.names, y.2 = .local → scope.names.lookup y.1 = some .local) (f : bj X scope.names) (cp : bW X scope capn caps) : cr X scope own capn caps :=
  ⟨k, c, n, f.get, cp.get.1, cp.get.2⟩
end Fm
set_option Elab.async false
set_option linter.all false
set_option maxRecDepth 100000
namespace Fm
open PySem PySem.Spec L2
section
variable {K : PySem.W.Frag} {ρ : List Addr} {H : Hp}
end
section
variable {X : Cx} {pos : Pos}
theorem zn {i : Int} {j : Nat} {p2 : Pos} : ME X (.UnaryOp .USub (.Constant (.int i) j p2) pos) (fC (.int (-i))) :=
  PE.imp (HU F7 BK) fun σ H Q ⟨ρ, σd, hd, rs, p⟩ => ⟨i, rfl, p.here rs (by simp only [rD, RD])⟩
end
end Fm
set_option Elab.async false
set_option linter.all false
set_option maxRecDepth 100000
namespace Fm
open PySem PySem.Spec L2 PySem.W PyProof.Rows
theorem GD {l r : Nat} (h : l < r) : l ≤ (l + r) / 2 ∧ (l + r) / 2 < r := by omega
section
variable {cmp : Nat → Nat → (Bool → Shared → Prop) → Shared → Prop} {n : Nat} {s : Shared} {lt : Nat → Nat → Bool}
structure Ord (lt : Nat → Nat → Bool) (n : Nat) : Prop where
  asy : ∀ i j, i < n → j < n → lt i j = true → lt j i = false
  tr : ∀ i j k, i < n → j < n → k < n → lt i j = true → lt j k = true → lt i k = true
  tot : ∀ i j, i < n → j < n → i ≠ j → lt i j = false → lt j i = true
structure Gd (n : Nat) (p : Array Nat) : Prop where
  sz : p.size = n
  pm : p.Perm (List.toArray (List.range n))
theorem Gd.below (g : Gd n p) {i : Nat} (hi : i < n) : p.getD i 0 < n := by
  have h1 : i < p.size := by rw [g.sz]; exact hi
  have e : p.getD i 0 = p[i] := by simp [Array.getD, h1]
  rw [e]
  have m : p[i] ∈ p.toList := by simp
  have := (Array.perm_iff_toList_perm.mp g.pm).mem_iff.mp m
  simpa using this
theorem Gd.ne (g : Gd n p) {i j : Nat} (hi : i < n) (hj : j < n) (h : i ≠ j) : p.getD i 0 ≠ p.getD j 0 := by
  have h1 : i < p.size := by rw [g.sz]; exact hi
  have h2 : j < p.size := by rw [g.sz]; exact hj
  have e : p.getD i 0 = p[i] := by simp [Array.getD, h1]
  have e' : p.getD j 0 = p[j] := by simp [Array.getD, h2]
  rw [e, e']
  have nd : p.toList.Nodup := (Array.perm_iff_toList_perm.mp g.pm).nodup_iff.mpr (by simpa using List.nodup_range)
  intro z
  have := (List.getElem_inj (xs := p.toList) nd (i := i) (j := j) (h₀ := by simpa using h1) (h₁ := by simpa using h2)).mp (by simpa using z)
  exact h this
def Srt (lt : Nat → Nat → Bool) (p : Array Nat) (m : Nat) : Prop := ∀ i j, i < j → j < m → lt (p.getD i 0) (p.getD j 0) = true
def Dsc (lt : Nat → Nat → Bool) (p : Array Nat) (m : Nat) : Prop := ∀ i j, i < j → j < m → lt (p.getD j 0) (p.getD i 0) = true
theorem fE : Gd n (List.toArray (List.range n)) := ⟨by simp, Array.Perm.refl _⟩
theorem Srt.next {p : Array Nat} {m : Nat} (O : Ord lt n) (g : Gd n p) (h : Srt lt p m) (h1 : 1 ≤ m) (hm : m < n) (c : lt (p.getD (m - 1) 0) (p.getD m 0) = true) : Srt lt p (m + 1) := by
  intro i j hij hj
  by_cases e : j < m
  · exact h i j hij e
  · have : j = m := by omega
    subst this
    by_cases e2 : i = j - 1
    · subst e2; exact c
    · exact O.tr _ _ _ (g.below (by omega)) (g.below (by omega)) (g.below hm) (h i (j - 1) (by omega) (by omega)) c
theorem Dsc.next {p : Array Nat} {m : Nat} (O : Ord lt n) (g : Gd n p) (h : Dsc lt p m) (h1 : 1 ≤ m) (hm : m < n) (c : lt (p.getD m 0) (p.getD (m - 1) 0) = true) : Dsc lt p (m + 1) := by
  intro i j hij hj
  by_cases e : j < m
  · exact h i j hij e
  · have : j = m := by omega
    subst this
    by_cases e2 : i = j - 1
    · subst e2; exact c
    · exact O.tr _ _ _ (g.below hm) (g.below (by omega)) (g.below (by omega)) c (h i (j - 1) (by omega) (by omega))
variable (O : Ord lt n) (hc : ∀ i j, i < n → j < n → ∀ C : Bool → Shared → Prop, C (lt i j) s → cmp i j C s)
include O hc
theorem j5 {p : Array Nat} (g : Gd n p) {Q : Nat → Shared → Prop} (q : ∀ m, 1 ≤ m → m ≤ n → Srt lt p m → (m < n → lt (p.getD m 0) (p.getD (m - 1) 0) = true) → Q m s) :
    ∀ (f m : Nat), 1 ≤ m → m + f = n → Srt lt p m → (kas_asc p f m).kasWp cmp Q s
  | 0, m, h1, e, h => q m h1 (by omega) h fun z => by omega
  | f + 1, m, h1, e, h => by
    refine hc _ _ (g.below (by omega)) (g.below (by omega)) _ ?_
    cases c : lt (p.getD m 0) (p.getD (m - 1) 0) with
    | true => ((try dsimp only); (try rw [if_pos rfl])); exact q m h1 (by omega) h fun _ => c
    | false =>
      ((try dsimp only); (try rw [if_neg Bool.false_ne_true]))
      have c' := O.tot _ _ (g.below (by omega)) (g.below (by omega)) (g.ne (i := m) (j := m - 1) (by omega) (by omega) (by omega)) c
      exact j5 g q f (m + 1) (by omega) (by omega) (h.next O g h1 (by omega) c')
theorem ml {p : Array Nat} (g : Gd n p) {Q : Array Nat × Nat × Nat → Shared → Prop} (q : ∀ m, 1 ≤ m → m ≤ n → Dsc lt p m → Q (p, m, 0) s) :
    ∀ (f m : Nat), 1 ≤ m → m + f = n → Dsc lt p m → (kas_desc f p m 0).kasWp cmp Q s
  | 0, m, h1, e, h => q m h1 (by omega) h
  | f + 1, m, h1, e, h => by
    refine hc _ _ (g.below (by omega)) (g.below (by omega)) _ ?_
    cases c : lt (p.getD m 0) (p.getD (m - 1) 0) with
    | true =>
      ((try dsimp only); (try rw [if_pos rfl])); (try rw [if_neg (by omega)])
      exact ml g q f (m + 1) (by omega) (by omega) (h.next O g h1 (by omega) c)
    | false =>
      ((try dsimp only); (try rw [if_neg Bool.false_ne_true]))
      have c' := O.tot _ _ (g.below (by omega)) (g.below (by omega)) (g.ne (i := m) (j := m - 1) (by omega) (by omega) (by omega)) c
      refine hc _ _ (g.below (by omega)) (g.below (by omega)) _ ?_
      rw [c']; ((try dsimp only); (try rw [if_pos rfl]))
      exact q m h1 (by omega) h
omit hc in
theorem GE {p : Array Nat} (g : Gd n p) {m : Nat} (hm : m ≤ n) (h : Dsc lt p m) : Gd n (kas_rev p 0 m) ∧ Srt lt (kas_rev p 0 m) m := by
  have at' : ∀ k, k < m → (kas_rev p 0 m).getD k 0 = p.getD (m - 1 - k) 0 := fun k hk => by
    have e := getElem?_mirror_all (xs := p) (i := 0) (j := m) (by rw [g.sz]; exact hm) k
    rw [if_pos ⟨Nat.zero_le _, hk⟩] at e
    unfold kas_rev
    rw [Array.getD_eq_getD_getElem?, Array.getD_eq_getD_getElem?, e, Nat.zero_add]
  refine ⟨⟨by unfold kas_rev; rw [mirror_size, g.sz], (mirror_perm _ _ _ _).trans g.pm⟩, fun i j hij hj => ?_⟩
  rw [at' i (by omega), at' j hj]
  exact h _ _ (by omega) (by omega)
theorem tz (h2 : 2 ≤ n) {Q : Nat × Array Nat → Shared → Prop} (q : ∀ m p, Gd n p → 1 ≤ m → m ≤ n → Srt lt p m → Q (m, p) s) : (kas_count n (List.toArray (List.range n))).kasWp cmp Q s := by
  unfold kas_count
  rw [KasT.kasWp_bind]
  refine j5 O hc fE (fun m h1 hm hs hd => ?_) (n - 1) 1 (Nat.le_refl _) (by omega) (fun i j hij hj => by omega)
  by_cases e : m = n
  · subst e
    rw [if_pos (by simp)]
    exact q m _ fE h1 (Nat.le_refl _) hs
  · rw [if_neg (by simpa using e)]
    by_cases e1 : m > 1
    · rw [if_pos e1]
      refine hc _ _ (fE.below (by omega)) (fE.below (by omega)) _ ?_
      have := hs 0 (m - 1) (by omega) (by omega)
      rw [this]; ((try dsimp only); (try rw [if_pos rfl]))
      exact q m _ fE h1 hm hs
    · rw [if_neg e1]
      have : m = 1 := by omega
      subst this
      have c := hd (by omega)
      unfold kas_descPart
      rw [KasT.kasWp_bind]
      refine ml O hc fE (fun m h1 hm hs => ?_) (n - 2) 2 (by omega) (by omega) (fun i j hij hj => ?_)
      · rw [if_neg (by simp)]
        unfold kas_tail3
        rw [KasT.kasWp_bind]
        obtain ⟨g', s'⟩ := GE O fE hm hs
        exact j5 O hc g' (fun m' h1' hm' hs' _ => q m' _ g' h1' hm' hs') (n - m) m h1 (by omega) s'
      · have hi : i = 0 := by omega
        have hj : j = 1 := by omega
        subst hi hj
        exact c
theorem ig {p : Array Nat} (g : Gd n p) {k : Nat} (hk : k < n) (hs : Srt lt p k) {Q : Nat → Shared → Prop} (q : ∀ l, l ≤ k → (∀ i, i < l → lt (p.getD i 0) (p.getD k 0) = true) → (∀ i, l ≤ i → i < k → lt (p.getD k 0) (p.getD i 0) = true) → Q l s) :
    ∀ (f l r : Nat), r - l ≤ f → l ≤ r → r ≤ k → (∀ i, i < l → lt (p.getD i 0) (p.getD k 0) = true) → (∀ i, r ≤ i → i < k → lt (p.getD k 0) (p.getD i 0) = true) → (kas_place p k f l r).kasWp cmp Q s
  | 0, l, r, hf, hl, hr, a, b => q l (Nat.le_trans hl hr) a fun i h1 h2 => b i (Nat.le_trans (Nat.le_of_sub_eq_zero (Nat.le_zero.mp hf)) h1) h2
  | f + 1, l, r, hf, hl, hr, a, b => by
    unfold kas_place
    by_cases e : l ≥ r
    · rw [if_pos e]
      exact q l (Nat.le_trans hl hr) a fun i h1 h2 => b i (Nat.le_trans e h1) h2
    · rw [if_neg e]
      have lr : l < r := Nat.not_le.mp e
      have hh := GD lr
      generalize (l + r) / 2 = M at hh
      have hm : M < k := Nat.lt_of_lt_of_le hh.2 hr
      have hMn : M < n := Nat.lt_trans hm hk
      refine hc _ _ (g.below hk) (g.below hMn) _ ?_
      cases c : lt (p.getD k 0) (p.getD M 0) with
      | true =>
        ((try dsimp only); (try rw [if_pos rfl]))
        refine ig g hk hs q f l M (Nat.le_of_lt_succ (Nat.lt_of_lt_of_le (Nat.sub_lt_sub_right hh.1 hh.2) hf)) hh.1 (Nat.le_of_lt hm) a fun i h1 h2 => ?_
        by_cases z : i = M
        · subst z; exact c
        · exact O.tr _ _ _ (g.below hk) (g.below hMn) (g.below (Nat.lt_trans h2 hk)) c (hs _ i (Nat.lt_of_le_of_ne h1 (Ne.symm z)) h2)
      | false =>
        ((try dsimp only); (try rw [if_neg Bool.false_ne_true]))
        have c' := O.tot _ _ (g.below hk) (g.below hMn) (g.ne (i := k) (j := M) hk hMn (Nat.ne_of_gt hm)) c
        refine ig g hk hs q f (M + 1) r (Nat.le_of_lt_succ (Nat.lt_of_lt_of_le (Nat.sub_lt_sub_left lr (Nat.lt_succ_of_le hh.1)) hf)) hh.2 hr (fun i h1 => ?_) b
        by_cases z : i = M
        · subst z; exact c'
        · have hi : i < M := Nat.lt_of_le_of_ne (Nat.le_of_lt_succ h1) z
          exact O.tr _ _ _ (g.below (Nat.lt_trans hi hMn)) (g.below hMn) (g.below hk) (hs i _ hi hm) c'
theorem nC {Q : Array Nat → Shared → Prop} (q : ∀ p, Gd n p → Srt lt p n → Q p s) : ∀ (f : Nat) (p : Array Nat) (k : Nat), Gd n p → k + f = n → Srt lt p k → (kas_bin f p k).kasWp cmp Q s
  | 0, p, k, g, e, h => by
    have : k = n := e
    subst this
    exact q p g h
  | f + 1, p, k, g, e, h => by
    unfold kas_bin
    rw [KasT.kasWp_bind]
    have hk : k < n := e ▸ Nat.lt_add_of_pos_right (Nat.succ_pos f)
    refine ig O hc g hk h (fun l hl a b => ?_) k 0 k (Nat.le_refl _) (Nat.zero_le _) (Nat.le_refl _) (fun i z => absurd z (Nat.not_lt_zero _)) (fun i z z' => absurd z' (Nat.not_lt.mpr z))
    have hks : k < p.size := by rw [g.sz]; exact hk
    have at' : ∀ i, (bubble p k (k - l)).getD i 0 = if i = l then p.getD k 0 else if l < i ∧ i ≤ k then p.getD (i - 1) 0 else p.getD i 0 := fun i => by
      have := getElem?_bubble hks (k - l) (Nat.sub_le _ _) i
      rw [Nat.sub_sub_self hl] at this
      simp only [Array.getD_eq_getD_getElem?]
      rw [this]
      by_cases c1 : i = l
      · rw [if_pos c1, if_pos c1]
      · rw [if_neg c1, if_neg c1]
        by_cases c2 : l < i ∧ i ≤ k
        · rw [if_pos c2, if_pos c2]
        · rw [if_neg c2, if_neg c2]
    refine nC q f _ (k + 1) ⟨by rw [bubble_size, g.sz], (bubble_perm _ _ _).trans g.pm⟩ (by rw [Nat.add_right_comm]; exact e) fun i j hij hj => ?_
    have jk : j ≤ k := Nat.le_of_lt_succ hj
    have j1 : j - 1 < k := Nat.sub_one_lt_of_le (Nat.zero_lt_of_lt hij) jk
    rw [at' i, at' j]
    by_cases c1 : i = l
    · have lj : l < j := c1 ▸ hij
      rw [if_pos c1, if_neg (Nat.ne_of_gt lj), if_pos ⟨lj, jk⟩]
      exact b _ (Nat.le_sub_one_of_lt lj) j1
    · rw [if_neg c1]
      by_cases c2 : l < i ∧ i ≤ k
      · have lj : l < j := Nat.lt_trans c2.1 hij
        rw [if_pos c2, if_neg (Nat.ne_of_gt lj), if_pos ⟨lj, jk⟩]
        exact h _ _ (Nat.sub_lt_sub_right (Nat.zero_lt_of_lt c2.1) hij) j1
      · rw [if_neg c2]
        have il : i < l := Nat.lt_of_le_of_ne (Nat.not_lt.mp fun z => c2 ⟨z, Nat.le_trans (Nat.le_of_lt hij) jk⟩) c1
        by_cases c3 : j = l
        · rw [if_pos c3]; exact a _ il
        · rw [if_neg c3]
          by_cases c4 : l < j ∧ j ≤ k
          · rw [if_pos c4]
            exact h _ _ (Nat.lt_of_lt_of_le il (Nat.le_sub_one_of_lt c4.1)) j1
          · rw [if_neg c4]
            have jl : j < l := Nat.lt_of_le_of_ne (Nat.not_lt.mp fun z => c4 ⟨z, jk⟩) c3
            exact h _ _ hij (Nat.lt_of_lt_of_le jl hl)
theorem uV (h2 : 2 ≤ n) {Q : Array Nat → Shared → Prop} (q : ∀ p, Gd n p → Srt lt p n → Q p s) : (kas_sort n).kasWp cmp Q s := by
  unfold kas_sort
  rw [KasT.kasWp_bind]
  refine tz O hc h2 fun m p g h1 hm hs => ?_
  by_cases e : m < n
  · rw [if_pos e]
    have : max m 1 = m := by omega
    show KasT.kasWp cmp (kas_bin (n - max m 1) p (max m 1)) Q s
    rw [this]
    exact nC O hc q (n - m) p m g (by omega) hs
  · rw [if_neg e]
    have : m = n := by omega
    subst this
    exact q p g hs
end
end Fm
set_option linter.all false
namespace Fm
def tD (x : List Int) : List (List Int) → List (List Int)
  | [] => [x]
  | y :: r => if bV x y = true then x :: y :: r else y :: tD x r
def cC : List (List Int) → List (List Int)
  | [] => []
  | x :: r => tD x (cC r)
def tF (r : List Int) : D := .tup (r.map .int)
theorem kD : ∀ a, bV a a = false
  | [] => rfl
  | x :: a => by simp [bV, kD a]
theorem fU : ∀ {a b c}, bV a b = true → bV b c = true → bV a c = true
  | [], [], _, h, _ => by simp [bV] at h
  | [], _ :: _, [], _, h => by simp [bV] at h
  | [], _ :: _, _ :: _, _, _ => rfl
  | _ :: _, [], _, h, _ => by simp [bV] at h
  | _ :: _, _ :: _, [], _, h => by simp [bV] at h
  | x :: a, y :: b, z :: c, h, h' => by
    simp only [bV] at h h' ⊢
    by_cases e : x = y
    · subst e
      rw [if_pos rfl] at h
      by_cases e2 : x = z
      · subst e2
        rw [if_pos rfl] at h' ⊢
        exact fU h h'
      · rw [if_neg e2] at h' ⊢; exact h'
    · rw [if_neg e] at h
      by_cases e2 : y = z
      · subst e2
        rw [if_neg e]; exact h
      · rw [if_neg e2] at h'
        simp at h h'
        rw [if_neg (by omega)]
        simp; omega
theorem lA : ∀ {a b}, a ≠ b → bV a b = false → bV b a = true
  | [], [], h, _ => absurd rfl h
  | [], _ :: _, _, h => by simp [bV] at h
  | _ :: _, [], _, _ => rfl
  | x :: a, y :: b, h, h' => by
    simp only [bV] at h' ⊢
    by_cases e : x = y
    · subst e
      rw [if_pos rfl] at h' ⊢
      exact lA (fun z => h (by rw [z])) h'
    · rw [if_neg e] at h'
      rw [if_neg (Ne.symm e)]
      simp at h' ⊢; omega
theorem mm {a b : List Int} (h : bV a b = true) : bV b a = false := by
  cases c : bV b a with
  | false => rfl
  | true => have := fU h c; rw [kD] at this; cases this
theorem lB (x : List Int) : ∀ r, (tD x r).Perm (x :: r)
  | [] => .refl _
  | y :: r => by
    simp only [tD]
    split
    · exact .refl _
    · exact ((lB x r).cons y).trans (.swap x y r)
theorem gf : ∀ r, (cC r).Perm r
  | [] => .refl _
  | x :: r => (lB x _).trans ((gf r).cons x)
theorem nD {x : List Int} : ∀ {r : List (List Int)}, x ∉ r → r.Pairwise (fun a b => bV a b = true) → (tD x r).Pairwise (fun a b => bV a b = true)
  | [], _, _ => by simp [tD]
  | y :: r, hx, h => by
    simp only [tD]
    have hy : ¬ x = y := fun z => hx (by simp [z])
    have hr : x ∉ r := fun z => hx (by simp [z])
    obtain ⟨h1, h2⟩ := List.pairwise_cons.mp h
    split
    · rename_i c
      refine List.pairwise_cons.mpr ⟨fun b hb => ?_, h⟩
      rcases List.mem_cons.mp hb with rfl | hb
      · exact c
      · exact fU c (h1 b hb)
    · rename_i c
      have c' := lA hy (by simpa using c)
      refine List.pairwise_cons.mpr ⟨fun b hb => ?_, nD hr h2⟩
      rcases List.mem_cons.mp ((lB x r).mem_iff.mp hb) with rfl | hb
      · exact c'
      · exact h1 b hb
theorem iY : ∀ {r : List (List Int)}, r.Nodup → (cC r).Pairwise (fun a b => bV a b = true)
  | [], _ => .nil
  | x :: r, h => by
    obtain ⟨h1, h2⟩ := List.nodup_cons.mp h
    exact nD (fun z => h1 ((gf r).mem_iff.mp z)) (iY h2)
theorem Ad {a b : List (List Int)} (p : a.Perm b) (ha : a.Pairwise (fun a b => bV a b = true)) (hb : b.Pairwise (fun a b => bV a b = true)) : a = b :=
  List.Perm.eq_of_pairwise (fun x y _ _ h h' => by have := mm h; rw [h'] at this; cases this) ha hb p
end Fm
set_option Elab.async false
set_option linter.all false
set_option maxRecDepth 100000
namespace Fm
open PySem PySem.Spec L2 PySem.W PyProof.Rows
section
variable {X : Cx} {pos p : Pos}
theorem cx.rds {K : PySem.W.Frag} {ρ : List Addr} {H : Hp} : ∀ {vs : List V} {rs : List (List Int)}, cx H vs rs → RDs K ρ H (rs.map tF) vs
  | _, _, .nil => RDs.nil
  | _, _, .cons (a := a) (r := r) h t => by
    refine RDs.cons ?_ (cx.rds t)
    unfold tF
    simp only [RD]
    refine ⟨a, _, rfl, h, ?_⟩
    clear h
    induction r with
    | nil => exact RDs.nil
    | cons x r ih => exact RDs.cons (by simp only [RD]) ih
theorem cx.pick {H : Hp} {vs : List V} {rs : List (List Int)} (h : cx H vs rs) : ∀ (l : List Nat), (∀ i ∈ l, i < vs.length) → cx H (l.map fun i => vs.getD i .non) (l.map fun i => rs.getD i [])
  | [], _ => .nil
  | i :: l, hl => by
    have hi : i < vs.length := hl i (by simp)
    obtain ⟨a, e, ha⟩ := h.get (i := i) (v := vs[i]) (by simp [hi])
    have t := cx.pick h l fun j hj => hl j (by simp [hj])
    have : vs.getD i .non = .ref a := by simp [List.getD, hi, e]
    simp only [List.map_cons, this]
    exact .cons ha t
theorem aV.pick {vs : List V} {us : List Value} (h : aV vs us) : ∀ (l : List Nat), (∀ i ∈ l, i < vs.length) → aV (l.map fun i => vs.getD i .non) (l.map fun i => us.getD i Value.none)
  | [], _ => .nil
  | i :: l, hl => by
    have hi : i < vs.length := hl i (by simp)
    obtain ⟨u, e, ru⟩ := h.get (i := i) (x := vs[i]) (by simp [hi])
    have t := aV.pick h l fun j hj => hl j (by simp [hj])
    simp only [List.map_cons]
    refine .cons ?_ t
    simp [List.getD, hi, e]
    exact ru
end
end Fm
set_option Elab.async false
set_option linter.all false
set_option maxRecDepth 100000
namespace Fm
open PySem PySem.Spec L2 PySem.W PyProof.Rows
section
variable {X : Cx} {pos p : Pos}
theorem RDs.rep {K : PySem.W.Frag} {ρ : List Addr} {H : Hp} {l : List D} {vs : List V} (r : RDs K ρ H l vs) : ∀ k, RDs K ρ H (List.replicate k l).flatten (List.replicate k vs).flatten
  | 0 => RDs.nil
  | k + 1 => by
    rw [List.replicate_succ, List.replicate_succ, List.flatten_cons, List.flatten_cons]
    exact RDs.append r (RDs.rep r k)
end
end Fm
set_option Elab.async false
set_option linter.all false
set_option maxRecDepth 100000
namespace L2
open PySem PySem.Spec PyProof.Rows
section
variable {κ : Type} [DecidableEq κ]
def iN (kvs : List (κ × V)) (k : κ) : Option V := (kvs.find? fun kv => decide (kv.1 = k)).map (·.2)
def j6 (kvs : List (κ × V)) (k : κ) (v : V) : List (κ × V) :=
  if (kvs.any fun kv => decide (kv.1 = k)) = true then kvs.map (fun kv => if kv.1 = k then (kv.1, v) else kv) else kvs ++ [(k, v)]
theorem nE {p : κ × V} {r : List (κ × V)} {k : κ} (e : p.1 = k) : iN (p :: r) k = some p.2 := by simp [iN, List.find?_cons, e]
theorem kE {p : κ × V} {r : List (κ × V)} {k : κ} (e : ¬ p.1 = k) : iN (p :: r) k = iN r k := by simp [iN, List.find?_cons, e]
theorem uW (k : κ) : ∀ kvs : List (κ × V), (kvs.any fun kv => decide (kv.1 = k)) = (iN kvs k).isSome
  | [] => rfl
  | p :: r => by
    rw [List.any_cons]
    by_cases e : p.1 = k
    · simp only [nE e, decide_eq_true e, Bool.true_or, Option.isSome_some]
    · rw [kE e, decide_eq_false e, Bool.false_or]; exact uW k r
theorem mn (kvs : List (κ × V)) (k : κ) (v : V) : (j6 kvs k v).length ≤ kvs.length + 1 := by
  unfold j6
  split
  · rw [List.length_map]; omega
  · rw [List.length_append, List.length_cons, List.length_nil]; omega
theorem zS.isSome_eq {o : Option V} {u : Option Value} (r : zS o u) : o.isSome = u.isSome := by
  cases o with
  | none => cases u with
    | none => rfl
    | some _ => exact (show False from r).elim
  | some _ => cases u with
    | none => exact (show False from r).elim
    | some _ => rfl
theorem KV.val {kvs : List (κ × V)} {vs : List (κ × Value)} (r : KV kvs vs) (k : κ) : zS (iN kvs k) (valueAt vs k) := by
  unfold KV at r
  induction r with
  | nil => exact True.intro
  | @cons p q ps qs h t ih =>
    obtain ⟨h1, h2⟩ := h
    by_cases e : p.1 = k
    · have e' : q.1 = k := h1.symm.trans e
      have b : valueAt (q :: qs) k = some q.2 := by simp [valueAt, List.find?_cons, e']
      rw [nE e, b]; exact h2
    · have e' : ¬ q.1 = k := fun z => e (h1.trans z)
      have b : valueAt (q :: qs) k = valueAt qs k := by simp [valueAt, List.find?_cons, e']
      rw [kE e, b]; exact ih
theorem KV.any {kvs : List (κ × V)} {vs : List (κ × Value)} (r : KV kvs vs) (k : κ) : (kvs.any fun kv => decide (kv.1 = k)) = vs.any fun kv => decide (kv.1 = k) := by
  unfold KV at r
  induction r with
  | nil => rfl
  | cons h t ih => rw [List.any_cons, List.any_cons, ih, h.1]
theorem KV.repl {kvs : List (κ × V)} {vs : List (κ × Value)} (r : KV kvs vs) (k : κ) {y : V} {u : Value} (ry : bB y u) :
    KV (kvs.map fun kv => if kv.1 = k then (kv.1, y) else kv) (vs.map fun kv => if kv.1 = k then (kv.1, u) else kv) := by
  unfold KV at r ⊢
  induction r with
  | nil => exact .nil
  | @cons p q ps qs h t ih =>
    rw [List.map_cons, List.map_cons]
    refine .cons ?_ ih
    obtain ⟨h1, h2⟩ := h
    by_cases e : p.1 = k
    · rw [if_pos e, if_pos (h1.symm.trans e)]; exact ⟨h1, ry⟩
    · rw [if_neg e, if_neg (fun z => e (h1.trans z))]; exact ⟨h1, h2⟩
theorem KV.put {kvs : List (κ × V)} {vs : List (κ × Value)} (r : KV kvs vs) (k : κ) {y : V} {u : Value} (ry : bB y u) : KV (j6 kvs k y) (stored vs k u) := by
  unfold j6 stored
  rw [r.any k]
  by_cases e : (vs.any fun kv => decide (kv.1 = k)) = true
  · rw [if_pos e, if_pos e]; exact r.repl k ry
  · rw [if_neg e, if_neg e]; exact Paired.snoc r ⟨rfl, ry⟩
theorem KV.length {kvs : List (κ × V)} {vs : List (κ × Value)} (r : KV kvs vs) : kvs.length = vs.length := Paired.length r
end
theorem Cj {P : Program} {w : World} {k : Key} {u : Value} (r : bB (kV k) u) : (cz P w).is k u = true := by
  cases k with
  | inl i => obtain ⟨t, e⟩ := (show ∃ t, u = Value.int i t from r); subst e; exact uI P w i t
  | inr x => obtain ⟨t, e⟩ := (show ∃ t, u = Value.str x t from r); subst e; exact uJ P w x t
theorem rF {P : Program} {w : World} : ∀ {ks : List Key} {us : List Value}, aV (ks.map kV) us → ItemsAre (cz P w) ks us
  | [], _, r => by rw [List.map_nil] at r; cases r; exact .nil
  | k :: ks, _, r => by
    rw [List.map_cons] at r
    cases r with
    | cons h t => exact .cons (Cj h) (rF t)
abbrev KT (H : Hp) : List (List Key × V) → List (List Key × Addr × Value) → Prop := Paired fun p q => p.1 = q.1 ∧ H q.2.1 = some (.tup (p.1.map kV)) ∧ bB p.2 q.2.2
theorem KT.val {H : Hp} {kvs : List (List Key × V)} {xs : List (List Key × Addr × Value)} (r : KT H kvs xs) (k : List Key) : zS (iN kvs k) ((atKey xs k).map (·.2)) := by
  induction r with
  | nil => exact True.intro
  | @cons p q ps qs h t ih =>
    obtain ⟨h1, _, h2⟩ := h
    by_cases e : p.1 = k
    · have e' : q.1 = k := h1.symm.trans e
      have b : atKey (q :: qs) k = some q.2 := by simp [atKey, List.find?_cons, e']
      rw [nE e, b]; exact h2
    · have e' : ¬ q.1 = k := fun z => e (h1.trans z)
      have b : atKey (q :: qs) k = atKey qs k := by simp [atKey, List.find?_cons, e']
      rw [kE e, b]; exact ih
theorem KT.repl {H : Hp} {kvs : List (List Key × V)} {xs : List (List Key × Addr × Value)} (r : KT H kvs xs) (k : List Key) {y : V} {u : Value} (ry : bB y u) :
    KT H (kvs.map fun kv => if kv.1 = k then (kv.1, y) else kv) (xs.map (putAt k u)) := by
  induction r with
  | nil => exact .nil
  | @cons p q ps qs h t ih =>
    rw [List.map_cons, List.map_cons]
    refine .cons ?_ ih
    obtain ⟨h1, h2, h3⟩ := h
    unfold putAt
    by_cases e : p.1 = k
    · rw [if_pos e, if_pos (h1.symm.trans e)]; exact ⟨h1, h2, ry⟩
    · rw [if_neg e, if_neg (fun z => e (h1.trans z))]; exact ⟨h1, h2, h3⟩
theorem KT.put {H : Hp} {kvs : List (List Key × V)} {xs : List (List Key × Addr × Value)} (r : KT H kvs xs) (k : List Key) {b : Addr} {y : V} {u : Value} (hb : H b = some (.tup (k.map kV))) (ry : bB y u) :
    KT H (j6 kvs k y) (storedH xs k b u) := by
  have e : (kvs.any fun kv => decide (kv.1 = k)) = (atKey xs k).isSome := by
    rw [uW, (r.val k).isSome_eq, Option.isSome_map]
  unfold j6 storedH
  rw [e]
  by_cases q : (atKey xs k).isSome = true
  · rw [if_pos q, if_pos q]; exact r.repl k ry
  · rw [if_neg q, if_neg q]; exact Paired.snoc r ⟨rfl, hb, ry⟩
theorem KT.keeps {H H' : Hp} {kvs : List (List Key × V)} {xs : List (List Key × Addr × Value)} (r : KT H kvs xs) (ht : ∀ b ys, H b = some (.tup ys) → H' b = some (.tup ys)) : KT H' kvs xs :=
  Paired.mapP r fun _ _ z => ⟨z.1, ht _ _ z.2.1, z.2.2⟩
section
variable {P : Program} {w : World} {H : Hp} {h : Heap} {a : Addr}
theorem FF {u : HO} (ok : HOk P w H h) (e : Rd H a u) : c7 P w H h a u := e.ok ok
theorem Ck {kvs : List (Key × V)} (ok : HOk P w H h) (e : Rd H a (.dK kvs)) : kvs.length ≤ sizeLine ∧ (a == sysModules) = false ∧ ∃ vs, KV kvs vs ∧ h.DictOf (cz P w) a vs :=
  show c7 P w H h a (.dK kvs) from FF ok e
theorem Cl {kvs : List (Key × V)} (ok : HOk P w H h) (e : H a = some (.dK kvs)) : kvs.length ≤ sizeLine ∧ (a == sysModules) = false ∧ ∃ vs, KV kvs vs ∧ h.DictOf (cz P w) a vs := Ck ok (.inl e)
theorem wS {ks : List Key} (ok : HOk P w H h) (e : H a = some (.tup (ks.map kV))) : (tupleKind (cz P w)).is h ks a := by
  obtain ⟨_, its, r, o, h1, h2, n, h3⟩ := (show c7 P w H h a (.tup (ks.map kV)) from ok a _ e)
  exact ⟨o, its.toArray, n, h1, h2, h3, by simpa using rF r⟩
theorem Cm {kvs : List (List Key × V)} (ok : HOk P w H h) (e : Rd H a (.dT kvs)) : kvs.length ≤ sizeLine ∧ (a == sysModules) = false ∧
    ∃ xs, KT H kvs xs ∧ h.DictOfH (tupleKind (cz P w)) a xs := by
  obtain ⟨z, y, xs, r, o, es, ep, h1, h2, h3, h4, h5⟩ := (show c7 P w H h a (.dT kvs) from FF ok e)
  refine ⟨z, y, xs, r, o, es, ep, h1, h2, h3, h4, fun x hx => ?_, h5⟩
  have all : ∀ {l : List (List Key × V)} {m : List (List Key × Addr × Value)}, KT H l m → ∀ x ∈ m, (tupleKind (cz P w)).is h x.1 x.2.1 := by
    intro l m q
    induction q with
    | nil => intro x hx; exact nomatch hx
    | @cons p q ps qs hq t ih =>
      intro x hx
      rcases List.mem_cons.mp hx with e | hx
      · subst e
        exact wS ok (by rw [← hq.1]; exact hq.2.1)
      · exact ih x hx
  exact all r x hx
theorem Iv {kvs : List (List Key × V)} (ok : HOk P w H h) (e : H a = some (.dT kvs)) : kvs.length ≤ sizeLine ∧ (a == sysModules) = false ∧
    ∃ xs, KT H kvs xs ∧ h.DictOfH (tupleKind (cz P w)) a xs := Cm ok (.inl e)
end
def Cn (H : Hp) (a : Addr) (y : V) (r : Option V) : Prop :=
  (∃ kvs k, Rd H a (.dK kvs) ∧ y = kV k ∧ r = iN kvs k) ∨ ∃ kvs k b, Rd H a (.dT kvs) ∧ y = .ref b ∧ H b = some (.tup (k.map kV)) ∧ r = iN kvs k
def Co (H : Hp) (a : Addr) (y v : V) (H' : Hp) : Prop :=
  (∃ kvs k, H a = some (.dK kvs) ∧ y = kV k ∧ kvs.length < sizeLine ∧ H' = upd H a (.dK (j6 kvs k v))) ∨
  ∃ kvs k b, H a = some (.dT kvs) ∧ y = .ref b ∧ H b = some (.tup (k.map kV)) ∧ kvs.length < sizeLine ∧ H' = upd H a (.dT (j6 kvs k v))
theorem Cn.k {H : Hp} {a : Addr} {kvs : List (Key × V)} {k : Key} (e : H a = some (.dK kvs)) : Cn H a (kV k) (iN kvs k) := .inl ⟨kvs, k, .inl e, rfl, rfl⟩
theorem Co.k {H : Hp} {a : Addr} {kvs : List (Key × V)} {k : Key} {v : V} (e : H a = some (.dK kvs)) (hl : kvs.length < sizeLine) : Co H a (kV k) v (upd H a (.dK (j6 kvs k v))) := .inl ⟨kvs, k, e, rfl, hl, rfl⟩
section
variable {X : Cx} {pins : List (Addr × Obj)} {σ : St} {H : Hp} {s : Shared} {a : Addr} {y v : V} {u r : Value} {o : Option V} {A : Around} {E : Value → Shared → Prop}
theorem Inv.big (I : Inv X pins σ H s) : sysModules < s.heap.objs.size := by
  have h : mainGlobals < s.heap.objs.size := (I.mod.glob.keeps I.bk).lt
  exact Nat.lt_trans (by decide) h
theorem Jp {Q : Value → Shared → Prop} (hu : A.units + 1 < cLine) (I : Inv X pins σ H s) (g : Cn H a y o) (ry : bB y u) (h : ∀ s', Inv X pins σ H s' → Q (.bool o.isSome) s') :
    wpAny (model X.prog X.w) A (compareOp .In u (.ref a)) Q E s := by
  rcases g with ⟨kvs, k, e, ey, l⟩ | ⟨kvs, k, b, e, ey, eb, l⟩
  · subst ey
    obtain ⟨z, hd, vs, rel, dd⟩ := Ck I.hok e
    refine wpAny_in_of (Cj ry) hd dd.mapOf ?_
    rw [← (rel.val k).isSome_eq, ← l]
    exact h _ (I.tok _)
  · subst ey
    cases (show u = Value.ref b from ry)
    obtain ⟨z, hd, xs, rel, dd⟩ := Cm I.hok e
    refine wpAny_in_heap (tupleKind_room_in1 hu) (wS I.hok eb) hd dd ?_
    have q := (rel.val k).isSome_eq
    rw [Option.isSome_map] at q
    rw [← q, ← l]
    exact h _ (I.tok _)
theorem zo {h' : Heap} {t' : Nat} {ob : HO} (I : Inv X pins σ H s) (mu : Mut (H a)) (hs : Heap.SameBut a s.heap h') (he : ∃ q, h'.get? a = some q) (new : c7 X.prog X.w (upd H a ob) h' a ob) :
    Inv X pins σ (upd H a ob) { s with heap := h', toks := t' } :=
  I.write (x := a) (e := a) mu (.inl rfl) (fun b q hb z => (hs.2 b hb).trans z) he new
theorem GG {P : Program} {w : World} {H' : Hp} {h' : Heap} {kvs : List (Key × V)} {vs : List (Key × Value)} (z : kvs.length ≤ sizeLine) (hd : (a == sysModules) = false) (rel : KV kvs vs) (dd : h'.DictOf (cz P w) a vs) :
    c7 P w H' h' a (.dK kvs) := ⟨z, hd, vs, rel, dd⟩
theorem Ae {H' : Hp} {Q : Unit → Shared → Prop} (hu : A.units + 1 < cLine) (I : Inv X pins σ H s) (g : Co H a y v H') (ry : bB y u) (rv : bB v r) (h : ∀ s', Inv X pins σ H' s' → Q () s') :
    wpAny (model X.prog X.w) A (setItem (.ref a) u r) Q E s := by
  rcases g with ⟨kvs, k, e, ey, l, eH⟩ | ⟨kvs, k, b, e, ey, eb, l, eH⟩
  · subst ey eH
    obtain ⟨z, hd, vs, rel, dd⟩ := Cl I.hok e
    have hz : vs.length ≤ sizeLine := by rw [← rel.length]; exact z
    have hl : (j6 kvs k v).length ≤ sizeLine := by have := mn kvs k v; omega
    refine wpAny_setItem_pairs (hsz := hz) (Cj ry) dd fun h' dd' hs => h _ ?_
    have he : ∃ q, h'.get? a = some q := let ⟨q, _, _, hq, _⟩ := dd'; ⟨q, hq⟩
    exact zo I (by rw [e]; exact True.intro) hs he (GG hl hd (rel.put k rv) dd')
  · subst ey eH
    cases (show u = Value.ref b from ry)
    obtain ⟨z, hd, xs, rel, dd⟩ := Iv I.hok e
    have hz : xs.length ≤ sizeLine := by rw [← Paired.length rel]; exact z
    have hl : (j6 kvs k v).length ≤ sizeLine := by have := mn kvs k v; omega
    refine wpAny_setItem_heap (hsz := hz) (tupleKind_room_in1 hu) (wS I.hok eb) dd fun h' dd' hs => h _ ?_
    obtain ⟨q, es, ep, hq, h2, h3, h4, _, h5⟩ := dd'
    refine zo I (by rw [e]; exact True.intro) hs ⟨q, hq⟩ ⟨hl, hd, _, (rel.put k eb rv).keeps fun c ys ec => ?_, q, es, ep, hq, h2, h3, h4, h5⟩
    rw [aA (Fv ec e (fun z => nomatch z))]
    exact ec
end
section
variable {X : Cx} {pins : List (Addr × Obj)} {σ : St} {H : Hp} {s : Shared} {a : Addr} {kvs : List (Key × V)} {k : Key} {u : Value} {A : Around} {E : Value → Shared → Prop}
end
section
variable {X : Cx} {o i e value : Expr} {pos pos' tpos : Pos} {td ty tv : TE}
end
theorem Cp {P : Program} {w : World} {H : Hp} (h : Heap) (hb : sysModules < h.objs.size) : c7 P w H (h.push { cls := .type "dict", data := .dict #[] }) h.objs.size (.dK []) :=
  ⟨Nat.zero_le _, beq_eq_false_iff_ne.mpr (Ne.symm (Nat.ne_of_lt hb)), [], .nil, Heap.DictOf.new h⟩
def GH : TE := fun _ H Q => ∀ p, H p = none → Q (.ref p) (upd H p (.dK []))
section
variable {X : Cx} {pos : Pos}
theorem Cq : PE X (.Dict [] [] pos) GH := fun pins s σ H Q I h =>
  wpAny_Dict_empty ⟨.ref s.heap.objs.size, _, I.laid (a := s.heap.objs.size) (o := .dK []) (t' := s.toks) (fun _ _ q => Heap.get?_push_of_some _ q) (Nat.le_refl _) (Cp s.heap I.big), rfl, h _ (I.hok.fresh (Nat.le_refl _))⟩
end
structure M1 (X : Cx) (o : Expr) (m : Str) (apos : Pos) (e : Expr) (cpos : Pos) : Prop where
  base : attributeBase o m X.env (eval o X.env) = eval o X.env
  few : ((backTo cpos (starEach [e] X.env)).all (fun x => !x.1) && (backToKw cpos (keywordEach [] X.env)).all (fun x => x.1.isSome)
    && decide (([e] : List Expr).length + ([] : List Keyword).length + (if ([] : List Keyword).isEmpty then 0 else 1) < 30)) = true
  line : (apos.endLine == cpos.line) = true
  trees : backTo cpos (starEach [e] X.env) = [(false, eval e X.env)]
structure M2 (X : Cx) (o : Expr) (m : Str) (apos : Pos) (e f : Expr) (cpos : Pos) : Prop where
  base : attributeBase o m X.env (eval o X.env) = eval o X.env
  few : ((backTo cpos (starEach [e, f] X.env)).all (fun x => !x.1) && (backToKw cpos (keywordEach [] X.env)).all (fun x => x.1.isSome)
    && decide (([e, f] : List Expr).length + ([] : List Keyword).length + (if ([] : List Keyword).isEmpty then 0 else 1) < 30)) = true
  line : (apos.endLine == cpos.line) = true
  trees : backTo cpos (starEach [e, f] X.env) = [(false, eval e X.env), (false, eval f X.env)]
def IsD (H : Hp) (a : Addr) : Prop := (∃ kvs, Rd H a (.dK kvs)) ∨ ∃ kvs, Rd H a (.dT kvs)
theorem GI {X : Cx} {pins : List (Addr × Obj)} {σ : St} {H : Hp} {s : Shared} {a : Addr} (I : Inv X pins σ H s) (d : IsD H a) :
    s.TypeIs (.ref a) "dict" ∧ (∀ b, Value.ref a = .ref b → ∃ ob, s.heap.get? b = some ob ∧ ob.dict = none) ∧ (a == sysModules) = false := by
  rcases d with ⟨kvs, e⟩ | ⟨kvs, e⟩
  · obtain ⟨_, hd, vs, _, dd⟩ := Ck I.hok e
    refine ⟨dd.typeIs, fun b q => ?_, hd⟩
    cases q
    obtain ⟨ob, _, _, h1, h2, _⟩ := dd
    exact ⟨ob, h1, h2.2.1⟩
  · obtain ⟨_, hd, xs, _, dd⟩ := Cm I.hok e
    refine ⟨dd.typeIs, fun b q => ?_, hd⟩
    cases q
    obtain ⟨ob, _, _, h1, h2, _⟩ := dd
    exact ⟨ob, h1, h2.2.1⟩
section
variable {X : Cx} {pins : List (Addr × Obj)} {σ : St} {H : Hp} {s : Shared} {a : Addr} {y d : V} {u r : Value} {o : Option V} {A : Around} {E : Value → Shared → Prop}
end
section
variable {X : Cx} {o e f : Expr} {apos cpos : Pos} {td ty tx : TE}
end
section
variable {X : Cx} {pins : List (Addr × Obj)} {σ : St} {H : Hp} {s : Shared} {a : Addr} {kvs : List (Key × V)} {A : Around} {E : Value → Shared → Prop}
end
section
variable {X : Cx} {pins : List (Addr × Obj)} {σ : St} {H : Hp} {s : Shared} {a : Addr} {y : V} {u : Value} {A : Around} {E : Value → Shared → Prop}
end
end L2
set_option linter.all false
namespace Fm
@[simp] def iF : EF := fun _ h => .ok (.ref h.length) (h ++ [.dct []])
def nF (l : List (Int × D)) (k : Int) : Option D := (l.find? fun p => decide (p.1 = k)).map (·.2)
def wT (l : List (Int × D)) (k : Int) (v : D) : List (Int × D) := if (l.any fun p => decide (p.1 = k)) = true then l.map (fun p => if p.1 = k then (p.1, v) else p) else l ++ [(k, v)]
@[simp] def Af : O2 := fun x y h => match x, y with
  | .int k, .ref n => match h[n]? with | some (.dct l) => .ok (.bl (nF l k).isSome) h | _ => .bad
  | _, _ => .bad
@[simp] def nG (x i e : EF) : SF := fun σ h => outE (e σ h) σ fun d h => outE (x σ h) σ fun p h => outE (i σ h) σ fun j h => match p, j with
  | .ref n, .int k => match h[n]? with
    | some (.dct l) => if l.length < SZ then .nx σ (h.set n (.dct (wT l k d))) else .bad
    | _ => .bad
  | _, _ => .bad
def ej : List (Int × D) → Option (List (List Int))
  | [] => some []
  | (k, .int v) :: r => (ej r).map fun l => [k, v] :: l
  | _ => none
@[simp] def j7 (a : EF) : LF := fun σ h => (a σ h).bind fun x h => match x with
  | .ref n => match h[n]? with
    | some (.dct l) => match ej l with
      | some r => if r.length < 64 ∧ r.Nodup then .ok ((cC r).map tF) h else .bad
      | none => .bad
    | _ => .bad
  | _ => .bad
end Fm
set_option Elab.async false
set_option linter.all false
set_option maxRecDepth 100000
namespace Fm
open PySem PySem.Spec L2 PySem.W PyProof.Rows
section
variable {K : PySem.W.Frag} {ρ : List Addr} {H : Hp} {hd : Hd}
theorem RH.allocD (r : RH K ρ H hd) {p : Addr} {l : List (Int × D)} (hp : RC K ρ H (.dct l) p) (hn : p ∉ ρ) : RH K (ρ ++ [p]) H (hd ++ [.dct l]) := by
  have k : Kp ρ H (ρ ++ [p]) H := ⟨fun n a e => by rw [List.getElem?_append_left (List.getElem?_eq_some_iff.mp e).1]; exact e, fun _ _ h => h, fun _ _ _ h => h, fun _ _ h => h⟩
  refine ⟨by simp [r.len], ?_, fun n c a h1 h2 => ?_⟩
  · rw [List.nodup_append]
    exact ⟨r.nd, by simp, fun a ha b hb => by simp at hb; subst hb; intro e; subst e; exact hn ha⟩
  · by_cases hlt : n < hd.length
    · rw [List.getElem?_append_left hlt] at h1
      rw [List.getElem?_append_left (by rw [r.len]; exact hlt)] at h2
      exact (r.cel n c a h1 h2).mono k rfl
    · have e1 : n = hd.length := by
        have := (List.getElem?_eq_some_iff.mp h1).1
        simp at this
        omega
      subst e1
      simp at h1
      subst h1
      rw [← r.len] at h2
      simp at h2
      subst h2
      obtain ⟨kvs, q1, q2, q3⟩ := hp
      exact ⟨kvs, q1, q2, q3.mono k⟩
theorem RH.writeD (r : RH K ρ H hd) {n : Nat} {p : Addr} {l : List (Int × D)} {kvs : List (Key × V)} (hp : ρ[n]? = some p) (hn : n < hd.length) (h1 : kvs.map (·.1) = l.map (fun p => (Sum.inl p.1 : Key))) (h2 : RDs K ρ H (l.map (·.2)) (kvs.map (·.2))) : RH K ρ (upd H p (.dK kvs)) (hd.set n (.dct l)) := by
  have k : Kp ρ H ρ (upd H p (.dK kvs)) := by
    have hm := List.mem_of_getElem? hp
    refine ⟨fun _ _ h => h, fun a us e => ?_, fun a o u e => ?_, fun a φ e => ?_⟩
    · rw [aA (fun z => r.noTup e (by rw [z]; exact hm))]; exact e
    · rw [aA (fun z => r.noFrz e (by rw [z]; exact hm))]; exact e
    · rw [aA (fun z => r.noExt e (by rw [z]; exact hm))]; exact e
  refine ⟨by simp [r.len], r.nd, fun m c a q1 q2 => ?_⟩
  by_cases e : n = m
  · subst e
    rw [List.getElem?_set_self hn] at q1
    cases q1
    rw [hp] at q2
    cases q2
    exact ⟨kvs, aT, h1, h2.mono k⟩
  · rw [List.getElem?_set_ne e] at q1
    have ne : a ≠ p := fun z => by
      subst z
      exact e (nu r.nd hp q2)
    exact (r.cel m c a q1 q2).mono k (aA ne)
theorem uX (k : Int) : ∀ {l : List (Int × D)} {kvs : List (Key × V)}, kvs.map (·.1) = l.map (fun p => (Sum.inl p.1 : Key)) → RDs K ρ H (l.map (·.2)) (kvs.map (·.2)) →
    (nF l k = none ∧ iN kvs (Sum.inl k) = none) ∨ ∃ d v, nF l k = some d ∧ iN kvs (Sum.inl k) = some v ∧ RD K ρ H d v
  | [], [], _, _ => .inl ⟨rfl, rfl⟩
  | [], _ :: _, h, _ => by simp at h
  | _ :: _, [], h, _ => by simp at h
  | (j, d) :: l, (kk, v) :: kvs, h1, h2 => by
    simp only [List.map_cons, List.cons.injEq] at h1
    simp only [List.map_cons, RDs] at h2
    obtain ⟨v', r', e, q1, q2⟩ := h2
    cases e
    obtain ⟨e1, e2⟩ := h1
    subst e1
    by_cases e : j = k
    · subst e
      exact .inr ⟨d, v, by simp [nF], by simp [iN], q1⟩
    · have ih := uX k e2 q2
      have a1 : nF ((j, d) :: l) k = nF l k := by simp [nF, e]
      have a2 : iN ((Sum.inl j, v) :: kvs) (Sum.inl k) = iN kvs (Sum.inl k) := kE (fun z => e (by cases z; rfl))
      rw [a1, a2]
      exact ih
theorem uY (k : Int) : ∀ {l : List (Int × D)} {kvs : List (Key × V)}, kvs.map (·.1) = l.map (fun p => (Sum.inl p.1 : Key)) → (kvs.any fun kv => decide (kv.1 = (Sum.inl k : Key))) = l.any fun p => decide (p.1 = k)
  | [], [], _ => rfl
  | [], _ :: _, h => by simp at h
  | _ :: _, [], h => by simp at h
  | (j, d) :: l, (kk, v) :: kvs, h1 => by
    simp only [List.map_cons, List.cons.injEq] at h1
    obtain ⟨e1, e2⟩ := h1
    subst e1
    simp [uY k e2]
theorem uZ (k : Int) {d0 : D} {v0 : V} (hv : RD K ρ H d0 v0) : ∀ {l : List (Int × D)} {kvs : List (Key × V)}, kvs.map (·.1) = l.map (fun p => (Sum.inl p.1 : Key)) → RDs K ρ H (l.map (·.2)) (kvs.map (·.2)) →
    (kvs.map fun kv => if kv.1 = (Sum.inl k : Key) then (kv.1, v0) else kv).map (·.1) = (l.map fun p => if p.1 = k then (p.1, d0) else p).map (fun p => (Sum.inl p.1 : Key)) ∧ RDs K ρ H ((l.map fun p => if p.1 = k then (p.1, d0) else p).map (·.2)) ((kvs.map fun kv => if kv.1 = (Sum.inl k : Key) then (kv.1, v0) else kv).map (·.2))
  | [], [], _, _ => ⟨rfl, RDs.nil⟩
  | [], _ :: _, h, _ => by simp at h
  | _ :: _, [], h, _ => by simp at h
  | (j, d) :: l, (kk, v) :: kvs, h1, h2 => by
    simp only [List.map_cons, List.cons.injEq] at h1
    simp only [List.map_cons, RDs] at h2
    obtain ⟨v', r', e, q1, q2⟩ := h2
    cases e
    obtain ⟨e1, e2⟩ := h1
    subst e1
    obtain ⟨i1, i2⟩ := uZ k hv e2 q2
    by_cases e : j = k
    · subst e
      simp only [List.map_cons, if_true]
      exact ⟨by rw [i1], RDs.cons hv i2⟩
    · have e' : ¬ (Sum.inl j : Key) = Sum.inl k := fun z => e (by cases z; rfl)
      simp only [List.map_cons, if_neg e, if_neg e']
      exact ⟨by rw [i1], RDs.cons q1 i2⟩
theorem Cr (k : Int) {d0 : D} {v0 : V} (hv : RD K ρ H d0 v0) {l : List (Int × D)} {kvs : List (Key × V)} (h1 : kvs.map (·.1) = l.map (fun p => (Sum.inl p.1 : Key))) (h2 : RDs K ρ H (l.map (·.2)) (kvs.map (·.2))) :
    (j6 kvs (Sum.inl k) v0).map (·.1) = (wT l k d0).map (fun p => (Sum.inl p.1 : Key)) ∧ RDs K ρ H ((wT l k d0).map (·.2)) ((j6 kvs (Sum.inl k) v0).map (·.2)) := by
  unfold j6 wT
  rw [uY k h1]
  split
  · exact uZ k hv h1 h2
  · refine ⟨by simp [h1], ?_⟩
    rw [List.map_append, List.map_append]
    exact RDs.append h2 (RDs.cons hv RDs.nil)
end
section
variable {X : Cx} {pos p : Pos}
theorem zp : ME X (.Dict [] [] pos) iF := by
  refine PE.imp Cq fun σ H Q ⟨ρ, σd, hd, rs, pp⟩ => fun q hq => ?_
  have sm := bF (o := HO.dK []) hq
  have hn := rs.hp.free hq
  have rh := (rs.hp.same sm).allocD (p := q) (l := []) ⟨[], aT, rfl, RDs.nil⟩ hn
  have ex : Ext ρ H (ρ ++ [q]) (upd H q (.dK [])) := Ext.alloc hq
  refine bo.at (R := rD X.K) (a := .ref hd.length) pp ex (rs.ext ex rh) ?_
  simp only [rD, RD]
  refine ⟨q, ?_, rfl⟩
  rw [← rs.hp.len]
  simp
def Iw (K : PySem.W.Frag) : R2 := fun x y H Q => ∃ a o, y = .ref a ∧ Cn H a x o ∧ Q (.bl o.isSome) H
theorem GJ (hu : X.A.units + 1 < cLine) : OpR X (compareOp .In) (Iw X.K) := by
  intro pins s σ H x y v u Q I rx ry h
  obtain ⟨a, o, rfl, g, q⟩ := h
  obtain rfl : u = Value.ref a := ry
  exact Jp hu I g rx fun s3 I3 => ⟨.bl o.isSome, H, I3, rfl, q⟩
theorem GK {K : PySem.W.Frag} : Og K Af (Iw K) := by
  intro ρ H σd hd σ d k v w Q rs rv rw' pp
  cases d <;> try exact pp.elim
  cases k <;> try exact pp.elim
  rename_i i n
  simp only [Af] at pp
  simp only [RD] at rv rw'
  subst rv
  obtain ⟨a, ha, rfl⟩ := rw'
  cases c : hd[n]? with
  | none => rw [c] at pp; exact pp.elim
  | some cell =>
    rw [c] at pp
    cases cell with
    | lst l => exact pp.elim
    | dct l =>
      simp only at pp
      obtain ⟨kvs, q1, q2, q3⟩ := rs.hp.cel n _ a c ha
      refine ⟨a, iN kvs (Sum.inl i), rfl, Cn.k (k := Sum.inl i) q1, ?_⟩
      have e : (iN kvs (Sum.inl i)).isSome = (nF l i).isSome := by
        rcases uX i q2 q3 with ⟨e1, e2⟩ | ⟨d, v, e1, e2, _⟩ <;> rw [e1, e2] <;> rfl
      rw [e]
      exact pp.here rs (by simp only [rD, RD])
def Ix : V → V → V → Hp → (Hp → Prop) → Prop := fun o i v H Q => ∃ a H', o = .ref a ∧ Co H a i v H' ∧ Q H'
theorem Cs (hu : X.A.units + 1 < cLine) : FY X Ix := by
  intro pins s σ H o i v ov iv u Q I ro ri rv h
  obtain ⟨a, H', rfl, g, q⟩ := h
  obtain rfl : ov = Value.ref a := ro
  exact Ae hu I g ri rv fun s' I' => ⟨H', I', q⟩
theorem zq {o i e : Expr} {fo fi fe : EF} {p2 : Pos} (hu : X.A.units + 1 < cLine) (he : ME X e fe) (ho : ME X o fo) (hi : ME X i fi) (hs : swapsWithSole [.Subscript o i p2] e pos.line X.env = pure false := by rfl) (hw : swappedStores [.Subscript o i p2] e X.env = pure none := by rfl)
    (h1 : (assignEach [.Subscript o i p2] X.env).map (·.2) = [assign (.Subscript o i p2) X.env] := by rfl) (ha : ∀ v, assign (.Subscript o i p2) X.env v = (do
      let ov ← holding [v] (eval o X.env)
      let iv ← holding [v, ov] (eval i X.env)
      standAt p2
      holding [v, ov, iv] (setItem ov iv v)
      release [v, ov, iv] []) := by intro _; rfl) : MS X (.Assign [.Subscript o i p2] e pos) (nG fo fi fe) := by
  refine PS.imp (wE he (BQ ho hi (Cs hu) ha) hs hw h1) fun En σ H ⟨ρ, σd, hd, rs, p⟩ => ⟨ρ, σd, hd, rs, (bN.outE p).imp fun v H1 ⟨ρ1, d, hd1, e1, rs1, rv, p1⟩ => ?_⟩
  refine ⟨ρ1, σd, hd1, rs1, (bN.outE p1).imp fun vo H2 ⟨ρ2, dO, hd2, e2, rs2, ro, p2⟩ => ?_⟩
  refine ⟨ρ2, σd, hd2, rs2, (bN.outE p2).imp fun vi H3 ⟨ρ3, di, hd3, e3, rs3, ri, p3⟩ => ?_⟩
  have rv3 := (rv.mono (rs1.hp.kp e2)).mono (rs2.hp.kp e3)
  have ro3 := ro.mono (rs2.hp.kp e3)
  cases dO with
  | ref n =>
    cases di with
    | int j =>
      simp only at p3
      cases c : hd3[n]? with
      | none => rw [c] at p3; exact p3.elim
      | some cell =>
        rw [c] at p3
        cases cell with
        | lst l => exact p3.elim
        | dct l =>
          simp only at p3
          split at p3
          · rename_i hz
            simp only [RD] at ro3 ri
            subst ri
            obtain ⟨a, ha, rfl⟩ := ro3
            obtain ⟨kvs, q1, q2, q3⟩ := rs3.hp.cel n _ a c ha
            have hl : kvs.length = l.length := by have := congrArg List.length q2; simpa using this
            refine ⟨a, _, rfl, Co.k (k := Sum.inl j) q1 (by rw [hl]; exact Nat.lt_of_lt_of_le hz (by rw [sizeLine_eq]; decide)), ?_⟩
            have hn : n < hd3.length := (List.getElem?_eq_some_iff.mp c).1
            obtain ⟨u1, u2⟩ := Cr j rv3 q2 q3
            have rh := rs3.hp.writeD ha hn u1 u2
            have ex : Ext ρ3 H3 ρ3 (upd H3 a (.dK (j6 kvs (Sum.inl j) v))) := Ext.write (List.mem_of_getElem? ha)
            exact p3 σ _ ρ3 ex (rs3.ext ex rh)
          · exact p3.elim
    | _ => exact p3.elim
  | _ => exact p3.elim
end
end Fm
set_option Elab.async false
set_option linter.all false
set_option maxRecDepth 100000
namespace Fm
open PySem PySem.Spec L2 PySem.W PyProof.Rows
section
variable {X : Cx} {pos p : Pos}
theorem rG {P : Program} {w : World} {H : Hp} {h h' : Heap} (hok : HOk P w H h) (hk : ∀ b o xs, H b = some (.tup xs) → h.get? b = some o → h'.get? b = some o) : ∀ {vs : List V} {rs : List (List Int)} {its : List Value}, cx H vs rs → aV vs its → (rs.all fun x => !x.isEmpty) = true →
    ∃ fs, KatTups h' its fs ∧ fs.length = its.length ∧ ∀ v ∈ fs, ∃ i t, v = Value.int i t
  | _, _, _, .nil, .nil, _ => ⟨[], .nil, rfl, fun v hv => by simp at hv⟩
  | _, _, _, .cons (a := a) (r := r) ha t, .cons rv rt, hne => by
    simp only [List.all_cons, Bool.and_eq_true, Bool.not_eq_true'] at hne
    obtain ⟨fs, h1, h2, h3⟩ := rG hok hk t rt hne.2
    obtain ⟨z, its0, r0, o, ho, hc, n, hd⟩ := hok a _ ha
    cases r with
    | nil => simp at hne
    | cons i r =>
      cases r0 with
      | cons q0 qr =>
        rename_i u us
        obtain ⟨tk, rfl⟩ := tw q0
        cases rv
        refine ⟨.int i tk :: fs, KatTups.cons (hk a o _ ha ho) hc hd (by simp) h1, by simp [h2], fun v hv => ?_⟩
        rcases List.mem_cons.mp hv with rfl | hv
        · exact ⟨i, tk, rfl⟩
        · exact h3 v hv
theorem GL {pins : List (Addr × Obj)} {σ : L2.St} {H : Hp} {s : Shared} {B : Addr} {vs : List V} {rs : List (List Int)} {A : Around} {E : Value → Shared → Prop} {Q : Value → Shared → Prop} (I : Inv X pins σ H s) (hB : H B = some (.lst vs)) (h64 : vs.length < 64) (rv : cx H vs rs) (nd : rs.Nodup) (hne : (rs.all fun x => !x.isEmpty) = true)
    (q : ∀ vs' s', cx H vs' (cC rs) → Inv X pins σ (upd H B (.lst vs')) s' → Q .none s') : wpAny (model X.prog X.w) A (call (.builtin "list.sort") [.ref B]) Q E s := by
  obtain ⟨hz, its, n0, rvs, ho⟩ := I.hok B _ hB
  have hlen : its.length = vs.length := rvs.length.symm
  obtain ⟨m, hm, _⟩ := id I.loc
  have nL : ∀ b u, H b = some u → b ≠ X.env.locals := fun b u e z => by rw [z, I.free] at e; cases e
  have BL := nL B _ hB
  have selfUpd : ∀ vs', vs' = vs → upd H B (.lst vs') = H := fun vs' e => by
    subst e
    funext b
    by_cases z : b = B
    · subst z; rw [aT, hB]
    · rw [aA z]
  have after : ∀ (h2 : Heap) (its' : List Value) (vs' : List V) (c t' : Nat), cx H vs' (cC rs) → aV vs' its' → vs'.length ≤ sizeLine → h2.get? B = some (PySem.W.listOf its'.toArray c) → (∀ b o, b ≠ X.env.locals → b ≠ B → s.heap.get? b = some o → h2.get? b = some o) → h2.Ns X.env.locals m → Inv X pins σ (upd H B (.lst vs')) { s with heap := h2, toks := t' } := fun h2 its' vs' c t' rv' rvs' hz' hB2 keep2 ns2 => by
    have I2 : L2.Inv X pins σ (upd H B (.lst vs')) { s with heap := h2, gens := s.gens, drawn := s.drawn, toks := t' } := by
      refine I.step (g' := s.gens) (d' := s.drawn) (t' := t') (ch := []) (fun _ z => nomatch z) (fun b o hb _ _ e n => keep2 b o hb (fun z => by subst z; rw [hB] at n; cases n) e) (fun b o hb _ _ e n => ⟨o.slots, keep2 b o hb (fun z => by subst z; rw [hB] at n; cases n) e⟩) (fun b o _ e n => by rw [aA (fun z => by subst z; rw [hB] at n; cases n)]; exact n) (fun b o _ e => ?_)
        (fun b ys e => by rw [aA (fun z => by subst z; rw [hB] at e; cases e)]; exact e) (fun b o u e => by rw [aA (fun z => by subst z; rw [hB] at e; cases e)]; exact e) (fun b ps e => ⟨#[], by rw [aA (fun z => by subst z; rw [hB] at e; cases e), e]; simp⟩) (fun m' hm' => by rw [GC hm' hm]; exact ns2) (fun b u e => ?_) I.bare
      · by_cases hb : b = X.env.locals
        · obtain ⟨o', _, _, ho', _⟩ := ns2
          rw [hb]; exact ⟨o', ho'⟩
        · by_cases hb2 : b = B
          · subst hb2; exact ⟨_, hB2⟩
          · exact ⟨o, keep2 b o hb hb2 e⟩
      · by_cases hb : b = B
        · subst hb
          rw [aT] at e
          cases e
          exact ⟨hz', its', c, rvs', hB2⟩
        · rw [aA hb] at e
          refine (I.hok b u e).stay (fun c v hc z => ?_) (fun c z => by rw [aA (fun y => by subst y; rw [hB] at z; cases z)]; exact z) fun c ys z => by rw [aA (fun y => by subst y; rw [hB] at z; cases z)]; exact z
          rcases hc with w | w
          · subst w; exact keep2 c v (nL c _ e) hb z
          · exact keep2 c v (nL c _ w) (fun y => by subst y; rw [hB] at w; cases w) z
    exact I2
  by_cases h2 : its.length < 2
  · have hs : cC rs = rs := by
      have : rs.length < 2 := by rw [← rv.length]; omega
      match rs, this with
      | [], _ => rfl
      | [_], _ => rfl
    have ha : B < s.heap.objs.size := Heap.lt_size ho
    have ho' : s.heap.get? B = some (seqObj "list" its.toArray n0) := ho
    refine wpAny_call_entry slot_list_sort ⟨_, ho, rfl⟩ entry_list_sort (wR ho' h2 ⟨_, rfl, ?_⟩) (args_list_sort _)
    obtain ⟨e1, ho1⟩ : ∃ e1, (s.heap.update B (Obj.mapSeq fun _ => #[])).get? B = some (seqObj "list" #[] e1) := ⟨_, get?_update_seq ho' (fun _ => #[])⟩
    have ho6 : (((s.heap.update B (Obj.mapSeq fun _ => #[])).push (seqObj "tuple" its.toArray 0)).push (seqObj "list" #[] 0)).get? B = some (seqObj "list" #[] e1) := by
      rw [Heap.get?_push_ne _ _ _ (by rw [size_push', Heap.size_update]; exact Nat.ne_of_lt (Nat.lt_succ_of_lt ha)), Heap.get?_push_ne _ _ _ (by rw [Heap.size_update]; exact Nat.ne_of_lt ha)]
      exact ho1
    have keepS : ∀ b o, b ≠ B → s.heap.get? b = some o → (sortedHeap s.heap B its its.toArray).get? b = some o := fun b o hb e => by
      have hlt : b < s.heap.objs.size := Heap.lt_size e
      unfold sortedHeap
      rw [Heap.get?_update_ne _ _ _ _ hb, Heap.get?_push_ne _ _ _ (by rw [size_push', Heap.size_update]; exact Nat.ne_of_lt (Nat.lt_succ_of_lt hlt)), Heap.get?_push_ne _ _ _ (by rw [Heap.size_update]; exact Nat.ne_of_lt hlt), Heap.get?_update_ne _ _ _ _ hb]
      exact e
    have ns2 : (sortedHeap s.heap B its its.toArray).Ns X.env.locals m := by
      obtain ⟨o', es, ep, h1, r⟩ := hm
      exact ⟨o', es, ep, keepS _ _ (Ne.symm BL) h1, r⟩
    refine q vs _ (by rw [hs]; exact rv) (after _ its vs _ s.toks (by rw [hs]; exact rv) rvs hz (get?_update_seq ho6 _) (fun b o _ hb e => keepS b o hb e) ns2)
  · have N0 : News (Att.noObjs s.heap) X.env.locals s.heap ((B, PySem.W.listOf its.toArray n0) :: Att.ledger s.heap X.env.locals B) := fun ⟨b, o⟩ hb => by
      rcases List.mem_cons.mp hb with e | hb
      · cases e
        exact ⟨ho, BL, Att.noObjs_get _ _⟩
      · obtain ⟨n1, n2, e⟩ := Att.mem_ledger.mp hb
        exact ⟨e, n1, Att.noObjs_get _ _⟩
    have hDn : ∀ q ∈ Att.ledger s.heap X.env.locals B, q.1 ≠ B := fun ⟨b, o⟩ hq => (Att.mem_ledger.mp hq).2.1
    refine kat_lsort (vs := its) (Att.fr_all hm) N0 (UpdF.head hDn) (by simp) (by omega) (by omega) fun e1 h' F' N' => ?_
    have inN : ∀ b o, b ≠ X.env.locals → b ≠ B → s.heap.get? b = some o → (b, o) ∈ Att.ledger s.heap X.env.locals B := fun b o hb hb2 e => Att.mem_ledger.mpr ⟨hb, hb2, e⟩
    have keep' : ∀ b o, b ≠ X.env.locals → b ≠ B → s.heap.get? b = some o → h'.get? b = some o := fun b o hb hb2 e => (N' (b, o) (List.mem_cons_of_mem _ (inN b o hb hb2 e))).1
    obtain ⟨fs, t1, t2, t3⟩ := rG I.hok (h' := h') (fun b o xs hb e => keep' b o (nL b _ hb) (fun z => by subst z; rw [hB] at hb; cases hb) e) rv rvs hne
    refine kat_kind (s := { s with heap := h' }) (T := .type "int") t1 (by omega) (fun v hv => ?_) rfl ?_
    · obtain ⟨i, t, rfl⟩ := t3 v hv
      exact Looks.of_pure rfl
    · have hT : (Value.type "int" != Value.type "tuple") = true := by decide
      rw [hT]
      have hrl : rs.length = its.length := by rw [← rv.length, hlen]
      have dif : ∀ i j, i < its.length → j < its.length → i ≠ j → rs.getD i [] ≠ rs.getD j [] := fun i j hi hj hij z => by
        have e1 : rs.getD i [] = rs[i]'(by omega) := by simp [List.getD, show i < rs.length by omega]
        have e2 : rs.getD j [] = rs[j]'(by omega) := by simp [List.getD, show j < rs.length by omega]
        rw [e1, e2] at z
        exact hij ((List.getElem_inj nd).mp z)
      have O : Ord (fun i j => Fm.bV (rs.getD i []) (rs.getD j [])) its.length := ⟨fun i j _ _ h => mm h, fun i j k _ _ _ h h' => fU h h', fun i j hi hj hij h => lA (dif i j hi hj hij) h⟩
      refine uV O (fun i j hi hj C hC => ?_) (by omega) fun pp g srt => ?_
      · unfold kas_ask
        have at' : ∀ i, i < its.length → ∃ b, its.getD i Value.none = .ref b ∧ ∃ (o : Obj) (zs : List Value) (n : Nat), h'.get? b = some o ∧ o.data = .seq zs.toArray n ∧ IntsAre zs (rs.getD i []) := fun i hi => by
          have hv : vs[i]? = some (vs[i]'(by omega)) := by simp [show i < vs.length by omega]
          obtain ⟨b, e1, e2⟩ := rv.get hv
          obtain ⟨u, hu, ru⟩ := rvs.get hv
          rw [e1] at ru
          cases (show u = Value.ref b from ru)
          obtain ⟨z, zs, r0, o, ho, hc, n, hd⟩ := I.hok b _ e2
          exact ⟨b, by simp [List.getD, hu], o, zs, n, keep' b o (nL b _ e2) (fun z => by subst z; rw [hB] at e2; cases e2) ho, hd, wK r0⟩
        obtain ⟨b1, x1, o1, z1, n1, y1, d1, i1⟩ := at' i hi
        obtain ⟨b2, x2, o2, z2, n2, y2, d2, i2⟩ := at' j hj
        rw [x1, x2]
        refine kat_lt (s := { s with heap := h' }) y1 d1 y2 d2 ?_
        have := GB (prog := X.prog) (w := X.w) (A := A.in1) (s := { s with heap := h' }) (Q := C) (rs.getD i []) (rs.getD j []) 0 i1 i2 hC
        simpa using this
      · have pmL : pp.toList.Perm (List.range its.length) := by simpa using Array.perm_iff_toList_perm.mp g.pm
        have inR : ∀ i ∈ pp.toList, i < vs.length := fun i hi => by
          have := pmL.mem_iff.mp hi
          rw [← hlen]; simpa using this
        obtain ⟨vs', hvs'⟩ : ∃ vs', vs' = pp.toList.map fun i => vs.getD i .non := ⟨_, rfl⟩
        obtain ⟨its', hits'⟩ : ∃ its', its' = pp.toList.map fun i => its.getD i Value.none := ⟨_, rfl⟩
        have rv' : cx H vs' (cC rs) := by
          have e : (pp.toList.map fun i => rs.getD i []) = cC rs := by
            refine Ad (?_ : List.Perm _ _) ?_ (iY nd)
            · refine ((pmL.map fun i => rs.getD i []).trans ?_).trans (gf rs).symm
              have : ((List.range its.length).map fun i => rs.getD i []) = rs := by
                apply List.ext_getElem?
                intro i
                by_cases hi : i < rs.length
                · have : i < its.length := by omega
                  simp [List.getD, hi, this]
                · have : ¬ i < its.length := by omega
                  simp [hi, this]
              rw [this]
            · rw [List.pairwise_map]
              rw [List.pairwise_iff_getElem]
              intro i j hi hj hij
              have s1 := srt i j hij (by rw [← g.sz]; simpa using hj)
              have g1 : pp.getD i 0 = pp.toList[i] := by simp [Array.getD, show i < pp.size by simpa using hi]
              have g2 : pp.getD j 0 = pp.toList[j] := by simp [Array.getD, show j < pp.size by simpa using hj]
              rw [g1, g2] at s1
              exact s1
          have := rv.pick pp.toList inR
          rw [e, ← hvs'] at this
          exact this
        have rvs' : aV vs' its' := by rw [hvs', hits']; exact aV.pick rvs pp.toList inR
        have hz' : vs'.length ≤ sizeLine := by
          have l1 : vs'.length = its.length := by rw [hvs', List.length_map, pmL.length_eq, List.length_range]
          rw [l1, hlen]; exact hz
        rw [← hits']
        refine KasFin.intro F' N' (UpdF.head hDn) fun h2 c F2 N2 => ?_
        have hD2 : h2.get? B = some (PySem.W.listOf its'.toArray c) := (N2 (B, _) (List.mem_cons_self ..)).1
        have keep2 : ∀ b o, b ≠ X.env.locals → b ≠ B → s.heap.get? b = some o → h2.get? b = some o := fun b o hb hb2 e => (N2 (b, o) (List.mem_cons_of_mem _ (inN b o hb hb2 e))).1
        exact q vs' _ rv' (after h2 its' vs' c s.toks rv' rvs' hz' hD2 keep2 F2.ns)
end
end Fm
set_option Elab.async false
set_option linter.all false
set_option maxRecDepth 100000
namespace Fm
open PySem PySem.Spec L2 PySem.W PyProof.Rows
section
variable {X : Cx} {pos p : Pos}
def tG (p d : Addr) : Heap → Prop := fun h => h.get? p = some { cls := .type "dict_items", data := .fields #[.ref d] }
def GM (td : TE) : TE := fun σ H Q => td σ H fun x H1 => ∃ a kvs, x = .ref a ∧ H1 a = some (.dK kvs) ∧ ∀ p, H1 p = none → Q (.ref p) (upd H1 p (.ext (tG p a)))
theorem Ct {o : Expr} {td : TE} {apos cpos : Pos} (ho : PE X o td) (hbase : attributeBase o "items" X.env (eval o X.env) = eval o X.env := by rfl) (hline : (apos.endLine == cpos.line) = true := by rfl) :
    PE X (.Call (.Attribute o "items" apos) [] [] cpos) (GM td) := by
  intro pins s σ H Q I h
  refine wpAny_Call_method0_late hbase hline (thn (ho pins s σ H _ I h) fun v s1 ⟨x, H1, I1, r1, a, kvs, ex, e, q1⟩ => ?_)
  subst ex
  obtain rfl : v = Value.ref a := r1
  obtain ⟨t1, t2, hs⟩ := GI I1 (.inl ⟨kvs, .inl e⟩)
  obtain ⟨_, hd, vs, _, dd⟩ := Cl I1.hok e
  refine ⟨"dict", "dict.items", PySem.F.plainAttrs_dict, PySem.F.slot_dict_items, PySem.F.type_dict_items, t1, t2, Calls.callWith_builtin rfl (PySem.evalArgs_none ?_)⟩
  refine call_meetsIn PySem.F.slot_dict_items t1 PySem.F.entry_dict_items (PySem.F.args_dict_items_1 _) (meets_dict_items (cz X.prog X.w) a hd) ⟨⟨vs, dd⟩, ?_⟩
  refine ⟨.ref s1.heap.objs.size, _, I1.laid (t' := s1.toks) (o := .ext (tG s1.heap.objs.size a)) (fun b ob q => Heap.get?_push_of_some _ q) (Nat.le_refl _) ⟨Heap.get?_push_size _ rfl, ⟨_, Heap.get?_push_size _ rfl⟩, fun h1 h2 f k => k _ f⟩, rfl, q1 _ (I1.hok.fresh (Nat.le_refl _))⟩
theorem Cu {pins : List (Addr × Obj)} {σ : L2.St} {H H' : Hp} {s : Shared} {h' : Heap} {t' : Nat} (I : Inv X pins σ H s) (keep : ∀ b o, s.heap.get? b = some o → h'.get? b = some o) (sm : gc H H') (fresh : ∀ b, b < s.heap.objs.size → H' b = H b) (new : ∀ b u, s.heap.objs.size ≤ b → H' b = some u → c7 X.prog X.w H' h' b u ∧ ∀ c, u ≠ .own c) : Inv X pins σ H' { s with heap := h', toks := t' } := by
  have I2 : L2.Inv X pins σ H' { s with heap := h', gens := s.gens, drawn := s.drawn, toks := t' } := by
    refine I.step (g' := s.gens) (d' := s.drawn) (t' := t') (ch := []) (fun _ z => nomatch z) (fun b o _ _ _ e _ => keep b o e) (fun b o _ _ _ e _ => ⟨o.slots, keep b o e⟩) (fun b o _ e n => by rw [fresh b (Heap.lt_size e)]; exact n) (fun b o _ e => ⟨o, keep b o e⟩)
      (fun b ys e => sm _ _ e) (fun b o u e => sm _ _ e) (fun b ps e => ⟨#[], by rw [sm _ _ e]; simp⟩) (fun m hm => ?_) (fun b u e => ?_) I.bare
    · obtain ⟨o', es, ep, h1, r⟩ := hm
      exact ⟨o', es, ep, keep _ _ h1, r⟩
    · by_cases hb : b < s.heap.objs.size
      · rw [fresh b hb] at e
        refine (I.hok b u e).stay (fun c v hc z => keep c v z) (fun c z => sm _ _ z) fun c ys z => sm _ _ z
      · exact (new b u (Nat.le_of_not_lt hb) e).1
  exact I2
def ov : List Addr → List (List Int) → Hp → Hp
  | a :: as, r :: rs, H => upd (ov as rs H) a (.tup (r.map V.int))
  | _, _, H => H
theorem zr {b : Addr} {H : Hp} : ∀ {as : List Addr} {rs : List (List Int)}, b ∉ as → ov as rs H b = H b
  | [], _, _ => rfl
  | a :: as, [], _ => rfl
  | a :: as, r :: rs, h => by
    have h1 : b ≠ a := fun z => h (by simp [z])
    have h2 : b ∉ as := fun z => h (by simp [z])
    show upd _ _ _ b = _
    rw [aA h1, zr h2]
theorem Cv {H : Hp} : ∀ {as : List Addr} {rs : List (List Int)} {j : Nat} {a : Addr} {r : List Int}, as.Nodup → as[j]? = some a → rs[j]? = some r → ov as rs H a = some (.tup (r.map V.int))
  | [], _, _, _, _, _, e, _ => by simp at e
  | a :: as, [], _, _, _, _, _, e => by simp at e
  | a :: as, r :: rs, 0, _, _, _, e, e' => by simp at e e'; subst e e'; exact aT
  | a :: as, r :: rs, j + 1, b, q, nd, e, e' => by
    obtain ⟨n1, n2⟩ := List.nodup_cons.mp nd
    have e : as[j]? = some b := by simpa using e
    have hb : b ≠ a := fun z => n1 (by rw [← z]; exact List.mem_of_getElem? e)
    show upd _ _ _ b = _
    rw [aA hb]
    exact Cv n2 e (by simpa using e')
theorem cx.mono {H H' : Hp} (k : ∀ a xs, H a = some (.tup xs) → H' a = some (.tup xs)) : ∀ {vs : List V} {rs : List (List Int)}, cx H vs rs → cx H' vs rs
  | _, _, .nil => .nil
  | _, _, .cons h t => .cons (k _ _ h) (cx.mono k t)
theorem zt {H' : Hp} : ∀ {as : List Addr} {rs : List (List Int)}, as.length = rs.length → (∀ (j : Nat) a r, as[j]? = some a → rs[j]? = some r → H' a = some (.tup (r.map V.int))) → cx H' (as.map V.ref) rs
  | [], [], _, _ => .nil
  | [], _ :: _, h, _ => by simp at h
  | _ :: _, [], h, _ => by simp at h
  | a :: as, r :: rs, h, f => .cons (f 0 a r rfl rfl) (zt (by simpa using h) fun j b q e e' => f (j + 1) b q (by simpa using e) (by simpa using e'))
def GN : List V → Hp → VK → Prop := fun xs H Q => ∃ (p a : Addr) (ps : List (Int × Int)), xs = [.ref p] ∧ H p = some (.ext (tG p a)) ∧ H a = some (.dK (ps.map fun q => ((Sum.inl q.1 : Key), V.int q.2))) ∧ ps.length < 64 ∧ (ps.map fun q => [q.1, q.2]).Nodup ∧
  ∀ H' q vs', gc H H' → H q = none → H' q = some (.lst vs') → cx H' vs' (cC (ps.map fun q => [q.1, q.2])) → Q (.ref q) H'
theorem Iy {κ : Type} {kvs : List (κ × V)} {vs : List (κ × Value)} (r : KV kvs vs) : ∀ {j : Nat} {k : κ} {x : Value} {k' : κ} {v : V}, vs[j]? = some (k, x) → kvs[j]? = some (k', v) → k' = k ∧ bB v x := by
  induction r with
  | nil => intro j k x k' v e; simp at e
  | cons h t ih =>
    intro j k x k' v e e'
    cases j with
    | zero => simp at e e'; subst e e'; exact h
    | succ j => exact ih (by simpa using e) (by simpa using e')
theorem wU (hc : X.calm = true) : eR X (.builtin "sorted") GN := by
  intro pins s σ H xs us Q I r h
  obtain ⟨p, a, ps, rfl, hp, ha, h64, nd, q⟩ := h
  obtain ⟨u, rfl, ru⟩ := aV.one r
  cases (show u = Value.ref p from ru)
  obtain ⟨rs, hrs⟩ : ∃ rs, rs = ps.map fun q => [q.1, q.2] := ⟨_, rfl⟩
  rw [← hrs] at nd q
  have view : tG p a s.heap := (I.hok p _ hp).1
  obtain ⟨hz, _, vs, rel, dd⟩ := Cl I.hok ha
  have lv : vs.length = ps.length := by rw [← rel.length]; simp
  obtain ⟨o, es, ep, d1, d2⟩ := id dd
  have dat : s.heap.DictAt (cz X.prog X.w) a vs ep := ⟨o, es, d1, d2⟩
  refine Calls.call_function_entry kind_sorted plain_sorted entry_sorted (args_sorted1 _) ?_
  unfold Builtin.«sorted»
  refine wpAny_bind (m := checkCount "sorted" 1 1 _) (wpAny_pure ?_)
  refine wpAny_bind (kdx_collect (A := X.A.in1) (knd := cz X.prog X.w) (kvs := vs) (ep := ep) (I.ok.hd hc) ⟨_, view, rfl, rfl⟩ dat (by rw [lv, sizeLine_eq]; omega) fun h' tk as hk hl hG => ?_)
  have ndA : as.Nodup := hG.rise.imp fun h => Nat.ne_of_lt h
  have lr : as.length = rs.length := by rw [hl, lv, hrs]; simp
  have newA : ∀ b ∈ as, s.heap.objs.size ≤ b := fun b hb => Nat.le_of_lt (hG.above b hb)
  have sm : gc H (ov as rs H) := fun b u e => by
    rw [zr]
    · exact e
    · intro z
      exact absurd (I.hok.lt e) (Nat.not_lt.mpr (newA b z))
  have I1 : Inv X pins σ (ov as rs H) { s with heap := h', toks := tk } := by
    refine Cu I hk sm (fun b hb => zr fun z => absurd hb (Nat.not_lt.mpr (newA b z))) fun b u hb e => ?_
    by_cases hm : b ∈ as
    · obtain ⟨j, hj⟩ := List.getElem?_of_mem hm
      have hjl : j < as.length := (List.getElem?_eq_some_iff.mp hj).1
      obtain ⟨key, k, x, e1, e2, e3⟩ := hG.pairs j b hj
      obtain ⟨pq, hpq⟩ : ∃ pq, ps[j]? = some pq := ⟨ps[j]'(by omega), by simp [show j < ps.length by omega]⟩
      have hr : rs[j]? = some [pq.1, pq.2] := by rw [hrs, List.getElem?_map, hpq]; rfl
      rw [Cv ndA hj hr] at e
      cases e
      refine ⟨?_, fun c z => by cases z⟩
      obtain ⟨hkk, rx⟩ := Iy rel e1 (show (ps.map fun q => ((Sum.inl q.1 : Key), V.int q.2))[j]? = some (Sum.inl pq.1, V.int pq.2) by rw [List.getElem?_map, hpq]; rfl)
      obtain ⟨t, rfl⟩ := tw rx
      subst hkk
      have : ∃ t', key = Value.int pq.1 t' := Value.isInt_shape e2
      obtain ⟨t', rfl⟩ := this
      exact ⟨by simp [sizeLine_eq], [_, _], .cons ⟨t', rfl⟩ (.cons ⟨t, rfl⟩ .nil), _, e3, rfl, _, rfl⟩
    · rw [zr hm] at e
      exact absurd (I.hok.lt e) (Nat.not_lt.mpr hb)
  refine wpAny_bind (wpAny_newList ?_ (by rw [List.length_map, hl, lv, sizeLine_eq]; omega))
  have rvA : aV (as.map V.ref) (as.map Value.ref) := by
    clear hl hG ndA lr newA sm I1 q
    induction as with
    | nil => exact .nil
    | cons a as ih => exact .cons rfl ih
  have I2 : Inv X pins σ (upd (ov as rs H) h'.objs.size (.lst (as.map V.ref))) { s with heap := h'.push { cls := .type "list", data := .seq (as.map Value.ref).toArray }, toks := tk } := I1.lnew (t' := tk) rvA (by rw [List.length_map, hl, lv, sizeLine_eq]; omega)
  have fr : ov as rs H h'.objs.size = none := I1.hok.fresh (Nat.le_refl _)
  have sm2 : gc (ov as rs H) (upd (ov as rs H) h'.objs.size (.lst (as.map V.ref))) := bF fr
  have rowsA : cx (upd (ov as rs H) h'.objs.size (.lst (as.map V.ref))) (as.map V.ref) rs := zt lr fun j b r e e' => sm2 _ _ (Cv ndA e e')
  have hne : (rs.all fun x => !x.isEmpty) = true := by rw [hrs, List.all_map, List.all_eq_true]; intro q _; rfl
  refine wpAny_bind (wpAny_holding (GL (A := X.A.in1) I2 aT (by rw [List.length_map, hl, lv]; exact h64) rowsA nd hne fun vs' s' rv' I3 => wpAny_pure ⟨_, rfl, ?_⟩))
  have uu : upd (upd (ov as rs H) h'.objs.size (.lst (as.map V.ref))) h'.objs.size (.lst vs') = upd (ov as rs H) h'.objs.size (.lst vs') := by
    funext b
    by_cases z : b = h'.objs.size
    · subst z; rw [aT, aT]
    · rw [aA z, aA z, aA z]
  rw [uu] at I3
  refine ⟨.ref h'.objs.size, _, I3, rfl, q _ _ vs' (fun b u e => bF fr _ _ (sm _ _ e)) ?_ aT ?_⟩
  · cases e : H h'.objs.size with
    | none => rfl
    | some u => rw [sm _ _ e] at fr; cases fr
  · refine rv'.mono fun b ys e => ?_
    have hb : b ≠ h'.objs.size := fun z => by subst z; rw [aT] at e; cases e
    rw [aA hb] at e ⊢
    exact e
theorem mr : ∀ {l : List (Int × D)} {r : List (List Int)}, ej l = some r → ∃ ps : List (Int × Int), l = ps.map (fun q => (q.1, D.int q.2)) ∧ r = ps.map fun q => [q.1, q.2]
  | [], r, e => by simp only [ej] at e; cases e; exact ⟨[], rfl, rfl⟩
  | (k, d) :: l, r, e => by
    cases d <;> simp only [ej] at e <;> try (cases e; done)
    rename_i v
    cases c : ej l with
    | none => rw [c] at e; cases e
    | some r' =>
      rw [c] at e
      cases e
      obtain ⟨ps, rfl, rfl⟩ := mr c
      exact ⟨(k, v) :: ps, rfl, rfl⟩
theorem Cw {K : PySem.W.Frag} {ρ : List Addr} {H : Hp} : ∀ {ps : List (Int × Int)} {kvs : List (Key × V)}, kvs.map (·.1) = (ps.map fun q => (q.1, D.int q.2)).map (fun p => (Sum.inl p.1 : Key)) → RDs K ρ H ((ps.map fun q => (q.1, D.int q.2)).map (·.2)) (kvs.map (·.2)) → kvs = ps.map fun q => ((Sum.inl q.1 : Key), V.int q.2)
  | [], [], _, _ => rfl
  | [], _ :: _, h, _ => by simp at h
  | _ :: _, [], h, _ => by simp at h
  | (j, d) :: ps, (kk, v) :: kvs, h1, h2 => by
    simp only [List.map_cons, List.cons.injEq] at h1
    simp only [List.map_cons, RDs] at h2
    obtain ⟨v', r', e, q1, q2⟩ := h2
    cases e
    obtain ⟨e1, e2⟩ := h1
    subst e1
    simp only [RD] at q1
    subst q1
    rw [Cw e2 q2]
    rfl
theorem Cy {o : Expr} {fo : EF} {apos cpos : Pos} (hc : X.calm = true) (hg : Gl X "sorted") (hm : X.mg "sorted" = none) (ho : ME X o fo)
    (hs : starEach [.Call (.Attribute o "items" apos) [] [] cpos] X.env = (false, eval (.Call (.Attribute o "items" apos) [] [] cpos) X.env) :: starEach [] X.env := by rfl)
    (hbase : attributeBase o "items" X.env (eval o X.env) = eval o X.env := by rfl) (hline : (apos.endLine == cpos.line) = true := by rfl) :
    MF X (.Call (.Name "sorted" p) [.Call (.Attribute o "items" apos) [] [] cpos] [] pos) (j7 fo) := by
  refine PE.imp (gu (wU hc) hg hm (by decide +kernel) (bD (Ct ho hbase hline) c9 hs) (he := hs)) fun σ H Q ⟨ρ, σd, hd, rs, pp⟩ => ⟨ρ, σd, hd, rs, ?_⟩
  unfold j7 at pp
  cases e : fo σd hd with
  | exc x h' => rw [e] at pp; exact pp
  | bad => rw [e] at pp; exact pp
  | ok d hd1 =>
    rw [e] at pp
    simp only [aI] at pp
    intro v H1 ρ1 e1 rs1 rv
    cases d <;> try exact pp.elim
    rename_i n
    simp only at pp
    simp only [rD, RD] at rv
    obtain ⟨a, ha, rfl⟩ := rv
    cases c : hd1[n]? with
    | none => rw [c] at pp; exact pp.elim
    | some cell =>
      rw [c] at pp
      cases cell with
      | lst l => exact pp.elim
      | dct l =>
        simp only at pp
        cases c2 : ej l with
        | none => rw [c2] at pp; exact pp.elim
        | some r =>
          rw [c2] at pp
          simp only at pp
          split at pp
          · rename_i hz
            obtain ⟨ps, rfl, rfl⟩ := mr c2
            obtain ⟨kvs, q1, q2, q3⟩ := rs1.hp.cel n _ a c ha
            have hk := Cw q2 q3
            subst hk
            refine ⟨a, _, rfl, q1, fun q hq => ⟨q, a, ps, rfl, aT, by rw [aA (a8 q1 hq)]; exact q1, by simpa using hz.1, hz.2, fun H' q' vs' sm hq' hl' rv' => ?_⟩⟩
            have sm1 : gc H1 H' := fun b u eb => sm _ _ (bF hq _ _ eb)
            have nq : q' ≠ q := fun z => by subst z; rw [aT] at hq'; cases hq'
            rw [aA nq] at hq'
            have hn := rs1.hp.free hq'
            exact pp q' vs' H' ρ1 (e1.trans (Ext.same sm1)) (rs1.same sm1) (e1.fresh hq' hn) hl' hn rv'.rds
          · exact pp.elim
end
end Fm
set_option linter.all false
namespace Fm
@[simp] def nH (la : LF) (b : EF) : LF := fun σ h => (la σ h).bind fun l h => (b σ h).bind fun y h => match y with
  | .int n => if 0 ≤ n ∧ n ≤ 1000 ∧ l.length * n.toNat ≤ 1000 then .ok (List.replicate n.toNat l).flatten h else .bad
  | _ => .bad
@[simp] def Ag (x i e : EF) : EF := fun σ h => (x σ h).bind fun p h => match p with
  | .ref n => match h[n]? with
    | some (.lst _) => (i σ h).bind fun j h => (e σ h).bind fun d h => match j with
      | .int k => match h[n]? with
        | some (.lst l) => if 0 ≤ k ∧ k ≤ l.length ∧ l.length < SZ then .ok .non (h.set n (.lst (l.take k.toNat ++ [d] ++ l.drop k.toNat))) else .bad
        | _ => .bad
      | _ => .bad
    | _ => .bad
  | _ => .bad
@[simp] def u0 (a b : EF) : EF := fun σ h => (a σ h).bind fun x h => (b σ h).bind fun y h => match x, y with
  | .int i, .int j => .ok (.int (if j > i then j else i)) h
  | _, _ => .bad
@[simp] def rH (a b : EF) : LF := fun σ h => (a σ h).bind fun x h => (b σ h).bind fun y h => match x, y with
  | .ref n, .ref m => match h[n]?, h[m]? with
    | some (.lst l), some (.lst k) => if l.length + k.length ≤ SZ then .ok (l ++ k) h else .bad
    | _, _ => .bad
  | _, _ => .bad
@[simp] def bZ : O2 := fun x y h => match x, y with
  | .tup xs, .tup ys => if xs.length + ys.length ≤ SZ then .ok (.tup (xs ++ ys)) h else .bad
  | _, _ => .bad
end Fm
set_option Elab.async false
set_option linter.all false
set_option maxRecDepth 100000
namespace Fm
open PySem PySem.Spec L2 PySem.W PyProof.Rows
section
variable {X : Cx} {pos p : Pos}
theorem rJ {K : PySem.W.Frag} {ρ : List Addr} {H : Hp} : ∀ {l : List D} {vs : List V} {bs : List Bool}, RDs K ρ H l vs → gw l = some bs → vs = bs.map V.bl
  | [], _, is, r, e => by simp only [gw] at e; cases e; simp only [RDs] at r; subst r; rfl
  | d :: l, _, is, r, e => by
    simp only [RDs] at r
    obtain ⟨v, vs, rfl, h1, h2⟩ := r
    cases d <;> simp only [gw] at e <;> try (cases e; done)
    rename_i i
    cases c : gw l with
    | none => rw [c] at e; cases e
    | some js =>
      rw [c] at e
      cases e
      simp only [RD] at h1
      rw [h1, rJ h2 c]
      rfl
theorem Cz {bs : List Bool} {its : List Value} (r : aV (bs.map V.bl) its) : ∀ (i : Nat) (v : Value), its.toArray[i]? = some v → v = .bool (bs.getD i false) := by
  intro i v e
  have e' : its[i]? = some v := by simpa using e
  have hi : i < bs.length := by
    have := (List.getElem?_eq_some_iff.mp e').1
    have := r.length
    simp at this
    omega
  obtain ⟨u, hu, ru⟩ := r.get (i := i) (x := V.bl bs[i]) (by simp [hi])
  rw [hu] at e'
  cases e'
  rw [show v = Value.bool bs[i] from ru]
  simp [List.getD, hi]
theorem CA (bs : List Bool) : (List.range bs.length).all (fun i => bs.getD i false) = bs.all id := by
  have : bs = (List.range bs.length).map fun i => bs.getD i false := by
    apply List.ext_getElem?
    intro i
    by_cases hi : i < bs.length <;> simp [List.getD, hi]
  conv => rhs; rw [this]
  rw [List.all_map]
  rfl
theorem Ah (hc : X.calm = true) : eR X (.builtin "all") (fun xs H Q => ∃ (p : Addr) (bs : List Bool), xs = [.ref p] ∧ (SqL X.K H p (bs.map V.bl) ∨ SqT X.K H p (bs.map V.bl)) ∧ Q (.bl (bs.all id)) H) := by
  intro pins s σ H xs us Q I r q
  obtain ⟨p, bs, rfl, sq, q⟩ := q
  obtain ⟨u, rfl, ru⟩ := aV.one r
  cases (show u = Value.ref p from ru)
  have hA : (X.A.in1).handled = none := I.ok.hd hc
  have tr : ∀ (its : List Value), aV (bs.map V.bl) its → TruthOf X.prog X.w X.A.in1 (fun i v => its.toArray[i]? = some v) (fun i => bs.getD i false) := fun its rv i v s Q E hP hQ => by
    rw [Cz rv i v hP]
    exact wpAny_truthy_bool hQ
  have fin : ∀ {it : Obj} {h' : Heap} {tk : Nat} {n : Nat}, n = bs.length → (∀ b o, b ∉ [s.heap.objs.size] → (s.heap.push it).get? b = some o → h'.get? b = some o) → EP X pins σ Q (.bool ((List.range n).all fun i => bs.getD i false)) { s with heap := h', toks := tk } := by
    intro it h' tk n hn hk
    subst hn
    refine ⟨.bl (bs.all id), H, I.kept (t' := tk) fun b o e => hk b o (by simp; exact Nat.ne_of_lt (Heap.lt_size e)) (Heap.get?_push_of_some _ e), by rw [CA]; rfl, q⟩
  rcases sq with sq | sq
  · obtain ⟨its, rv, pl, hz⟩ := I.list sq
    have il : s.heap.IsList p its.toArray := pl.isList
    have hlt : p < s.heap.objs.size := by obtain ⟨o, ho, _⟩ := il; exact Heap.lt_size ho
    refine PySem.call_all_walk (PySem.wpAny_pyIter_list il ?_)
    refine ⟨s.heap.objs.size, _, [s.heap.objs.size], _, _, _, fun i => bs.getD i false, rfl, PySem.Walks.list hA s.heap.objs.size p (Nat.ne_of_lt hlt) its.toArray, ⟨⟨_, Heap.get?_push_size _ rfl, rfl, rfl⟩, ?_⟩, tr its rv, ?_⟩
    · obtain ⟨o, ho, r⟩ := il; exact ⟨o, Heap.get?_push_of_some _ ho, r⟩
    · exact fun h' tk hk => fin (by simpa using rv.length.symm) hk
  · obtain ⟨its, rv, pl, hz⟩ := I.tuple sq
    have il : s.heap.IsTuple p its.toArray := pl
    have hlt : p < s.heap.objs.size := by obtain ⟨o, ho, _⟩ := il; exact Heap.lt_size ho
    refine PySem.call_all_walk (PySem.wpAny_pyIter_tuple il ?_)
    refine ⟨s.heap.objs.size, _, [s.heap.objs.size], _, _, _, fun i => bs.getD i false, rfl, PySem.Walks.tuple hA s.heap.objs.size p (Nat.ne_of_lt hlt) its.toArray, ⟨⟨_, Heap.get?_push_size _ rfl, rfl, rfl⟩, ?_⟩, tr its rv, ?_⟩
    · obtain ⟨o, ho, r⟩ := il; exact ⟨o, Heap.get?_push_of_some _ ho, r⟩
    · exact fun h' tk hk => fin (by simpa using rv.length.symm) hk
theorem wV {a : Expr} {la : LF} (hc : X.calm = true) (hg : Gl X "all") (hm : X.mg "all" = none) (ha : MQ X a la) (hs : starEach [a] X.env = (false, eval a X.env) :: starEach [] X.env := by rfl) : ME X (.Call (.Name "all" p) [a] [] pos) (uN la) := by
  refine sX (g := fun l h => match gw l with | some bs => .ok (.bl (bs.all id)) h | none => .bad) (Ca (Ah hc) hg hm (by decide +kernel) (he := hs)) ha (fun ρ H σd hd σ l q vs Q rs sq rvs p => ?_) hs
  cases c : gw l with
  | none => simp only [c] at p; exact p.elim
  | some is =>
    simp only [c] at p
    have e := rJ rvs c
    subst e
    exact ⟨q, is, rfl, sq.imp id SqT.of, p.here rs (by simp only [rD, RD])⟩
theorem wW {a b : Expr} {la : LF} {fb : EF} (ha : MF X a la) (hb : ME X b fb) : MF X (.BinOp a .Mult b pos) (nH la fb) := by
  refine PE.imp (BU Gi ha hb) fun σ H Q ⟨ρ, σd, hd, rs, pp⟩ => ⟨ρ, σd, hd, rs, ?_⟩
  unfold nH at pp
  cases e : la σd hd with
  | exc x h' => rw [e] at pp; exact pp
  | bad => rw [e] at pp; exact pp
  | ok l hd1 =>
    rw [e] at pp
    simp only [aI] at pp
    intro q vs H1 ρ1 e1 rs1 hq0 hq hn rvs
    refine ⟨ρ1, σd, hd1, rs1, ?_⟩
    cases e2 : fb σd hd1 with
    | exc x h' => rw [e2] at pp; exact pp
    | bad => rw [e2] at pp; exact pp
    | ok y hd2 =>
      rw [e2] at pp
      simp only [aI] at pp
      intro v H2 ρ2 ex2 rs2 rv
      cases y <;> try exact pp.elim
      rename_i n
      simp only at pp
      split at pp
      · rename_i hz
        simp only [rD, RD] at rv
        subst rv
        have hq2 : H2 q = some (.lst vs) := ex2.frame q _ hq hn
        have rvs2 := rvs.mono (rs1.hp.kp ex2)
        refine ⟨q, n, vs, rfl, rfl, hq2, by omega, by omega, by rw [← rvs.length, sizeLine_eq]; omega, fun p' hp' => ?_⟩
        exact uO.mk pp (e1.trans ex2) rs2 (RDs.rep rvs2 n.toNat) p' hp'
      · exact pp.elim
theorem GO {a b : Expr} {fa fb : EF} (hc : X.calm = true) (hg : Gl X "max") (hm : X.mg "max" = none) (ha : ME X a fa) (hb : ME X b fb) (hs : starEach [a, b] X.env = (false, eval a X.env) :: starEach [b] X.env := by rfl) (hs2 : starEach [b] X.env = (false, eval b X.env) :: starEach [] X.env := by rfl) (hpl : (backTo pos (starEach [b] X.env)).any (fun x => x.1) = false := by rfl) : ME X (.Call (.Name "max" p) [a, b] [] pos) (u0 fa fb) := by
  refine PE.imp (gu (zX hc) hg hm (by decide +kernel) (bD ha (bD hb c9 hs2) hs) (he := hs) (hpl := hpl)) fun σ H Q ⟨ρ, σd, hd, rs, pp⟩ => ⟨ρ, σd, hd, rs, ?_⟩
  unfold u0 at pp
  refine (bo.bind (R := rD X.K) pp).imp fun v H1 ⟨ρ1, d, hd1, e1, rs1, rv, p1⟩ => ?_
  refine ⟨ρ1, σd, hd1, rs1, (bo.bind (R := rD X.K) p1).imp fun w H2 ⟨ρ2, k, hd2, e2, rs2, rw', p2⟩ => ?_⟩
  cases d <;> try exact p2.elim
  cases k <;> try exact p2.elim
  simp only [rD, RD] at rv rw'
  subst rv rw'
  exact ⟨_, _, rfl, p2.here rs2 (by simp only [rD, RD])⟩
def Es : V → List V → Hp → VK → Prop := fun x vs H Q => ∃ l xs k y, x = .ref l ∧ vs = [.int k, y] ∧ H l = some (.lst xs) ∧ 0 ≤ k ∧ k ≤ xs.length ∧ xs.length < sizeLine ∧ Q .non (upd H l (.lst (xs.take k.toNat ++ [y] ++ xs.drop k.toNat)))
theorem Ai : MtM X "list.insert" Es := by
  intro pins s σ H x vs v us Q I rx rv h
  obtain ⟨l, xs, k, y, rfl, rfl, hH, k0, k1, hz, q⟩ := h
  cases rx
  obtain ⟨u, w, rfl, ru, rw'⟩ := rv.two
  obtain ⟨t, rfl⟩ := tw ru
  obtain ⟨z, its, n, r, hl, e⟩ := I.lstM hH
  have hfit : ¬ (!Builtin.List.listFitsIndex k) = true := by
    rw [fitsIndex_both (by omega) (by rw [sizeLine_eq] at hz; omega)]
    exact Bool.false_ne_true
  refine call_meets F.slot_list_insert ⟨_, e, rfl⟩ F.entry_list_insert (F.args_list_insert_3 _ _ _) (AutoSeq1.list_insert_list_int_val_1 l its.toArray n k t w hfit (by rw [List.size_toArray]; omega)) ⟨e, ?_⟩
  refine ⟨.non, _, I.lset (its' := its.take k.toNat ++ [w] ++ its.drop k.toNat) hH e ?_ (((r.take k.toNat).append (.cons rw' .nil)).append (r.drop k.toNat)) ?_, rfl, q⟩
  · have k2 : ¬ k < 0 := by omega
    have k3 : min k.toNat its.length = k.toNat := by omega
    simp only [Obj.mapSeq, List.size_toArray, if_neg k2, k3]
    congr 2
    simp
    exact List.take_of_length_le (by simp)
  · simp; omega
theorem GP {o i e : Expr} {fo fi fe : EF} {apos cpos : Pos} (ho : ME X o fo) (hi : ME X i fi) (he : ME X e fe) (hbase : attributeBase o "insert" X.env (eval o X.env) = eval o X.env := by rfl)
    (hfew : ((backTo cpos (starEach [i, e] X.env)).all (fun x => !x.1) && (backToKw cpos (keywordEach [] X.env)).all (fun x => x.1.isSome)
      && decide (([i, e] : List Expr).length + ([] : List Keyword).length + (if ([] : List Keyword).isEmpty then 0 else 1) < 30)) = true := by rfl)
    (hline : (apos.endLine == cpos.line) = true := by rfl) (hs : starEach [i, e] X.env = (false, eval i X.env) :: starEach [e] X.env := by rfl) (hs2 : starEach [e] X.env = (false, eval e X.env) :: starEach [] X.env := by rfl) (hpl : (backTo cpos (starEach [e] X.env)).any (·.1) = false := by rfl) :
    ME X (.Call (.Attribute o "insert" apos) [i, e] [] cpos) (Ag fo fi fe) := by
  refine PE.imp (B4 PySem.F.plainAttrs_list PySem.F.slot_list_insert PySem.F.type_list_insert Ai ho (bD hi (bD he c9 hs2) hs) hbase hfew hline hs hpl) fun σ H Q ⟨ρ, σd, hd, rs, pp⟩ => ⟨ρ, σd, hd, rs, ?_⟩
  unfold Ag at pp
  refine (bo.bind (R := rD X.K) pp).imp fun v H1 ⟨ρ1, d, hd1, e1, rs1, rv, p1⟩ => ?_
  cases d <;> try exact p1.elim
  rename_i n
  simp only [rD, RD] at rv
  obtain ⟨a, ha, rfl⟩ := rv
  simp only at p1
  cases c1 : hd1[n]? with
  | none => rw [c1] at p1; exact p1.elim
  | some cell1 =>
    rw [c1] at p1
    cases cell1 with
    | dct l => exact p1.elim
    | lst l1 =>
      obtain ⟨vs, hv, _⟩ := rs1.hp.cel n _ a c1 ha
      simp only at p1
      refine ⟨.inl ⟨rfl, vs, SqL.of hv⟩, ρ1, σd, hd1, rs1, (bo.bind (R := rD X.K) p1).imp fun vi H2 ⟨ρ2, k, hd2, e2, rs2, ri, p2⟩ => ?_⟩
      refine ⟨ρ2, σd, hd2, rs2, (bo.bind (R := rD X.K) p2).imp fun w H3 ⟨ρ3, dv, hd3, e3, rs3, rw', p3⟩ => ?_⟩
      cases k with
      | int k =>
       simp only [rD, RD] at ri
       subst ri
       simp only at p3
       cases c : hd3[n]? with
       | none => rw [c] at p3; exact p3.elim
       | some cell =>
         rw [c] at p3
         cases cell with
         | dct l => exact p3.elim
         | lst l =>
           simp only at p3
           split at p3
           · rename_i hz
             have ha3 := e3.get (e2.get ha)
             obtain ⟨vs3, hv3, rvs3⟩ := rs3.hp.cel n _ a c ha3
             refine ⟨a, vs3, k, w, rfl, rfl, hv3, hz.1, by rw [← rvs3.length]; exact hz.2.1, ?_, ?_⟩
             · rw [← rvs3.length]; exact Nat.lt_of_lt_of_le hz.2.2 (by rw [sizeLine_eq]; decide)
             · have hn : n < hd3.length := (List.getElem?_eq_some_iff.mp c).1
               have rh := rs3.hp.write ha3 hn (RDs.append (RDs.append (RDs.take k.toNat rvs3) (RDs.cons rw' RDs.nil)) (RDs.drop k.toNat rvs3))
               have ex : Ext ρ3 H3 ρ3 (upd H3 a (.lst (vs3.take k.toNat ++ [w] ++ vs3.drop k.toNat))) := Ext.write (List.mem_of_getElem? ha3)
               exact p3.at ex (rs3.ext ex rh) (by simp only [rD, RD])
           · exact p3.elim
      | _ => exact p3.elim
theorem Et {a b : Expr} {fa fb : EF} (ha : ME X a fa) (hb : ME X b fb) : MF X (.BinOp a .Add b pos) (rH fa fb) := by
  refine PE.imp (BU Gh ha hb) fun σ H Q ⟨ρ, σd, hd, rs, pp⟩ => ⟨ρ, σd, hd, rs, ?_⟩
  unfold rH at pp
  cases e : fa σd hd with
  | exc x h' => rw [e] at pp; exact pp
  | bad => rw [e] at pp; exact pp
  | ok d hd1 =>
    rw [e] at pp
    simp only [aI] at pp
    intro v H1 ρ1 e1 rs1 rv
    refine ⟨ρ1, σd, hd1, rs1, ?_⟩
    cases e2 : fb σd hd1 with
    | exc x h' => rw [e2] at pp; exact pp
    | bad => rw [e2] at pp; exact pp
    | ok k hd2 =>
      rw [e2] at pp
      simp only [aI] at pp
      intro w H2 ρ2 ex2 rs2 rw'
      cases d with
      | ref n =>
        cases k with
        | ref m =>
          simp only at pp
          simp only [rD, RD] at rv rw'
          obtain ⟨a1, ha1, rfl⟩ := rv
          obtain ⟨b1, hb1, rfl⟩ := rw'
          have ha2 := ex2.get ha1
          cases c1 : hd2[n]? with
          | none => rw [c1] at pp; exact pp.elim
          | some x1 =>
            cases c2 : hd2[m]? with
            | none => rw [c1, c2] at pp; cases x1 <;> exact pp.elim
            | some x2 =>
              rw [c1, c2] at pp
              cases x1 with
              | dct _ => exact pp.elim
              | lst l =>
                cases x2 with
                | dct _ => exact pp.elim
                | lst k =>
                  simp only at pp
                  split at pp
                  · rename_i hz
                    obtain ⟨vs1, hv1, rvs1⟩ := rs2.hp.cel n _ a1 c1 ha2
                    obtain ⟨vs2, hv2, rvs2⟩ := rs2.hp.cel m _ b1 c2 hb1
                    refine ⟨a1, b1, vs1, vs2, rfl, rfl, hv1, hv2, by rw [← rvs1.length, ← rvs2.length]; exact ky hz, fun p' hp' => ?_⟩
                    exact uO.mk pp (e1.trans ex2) rs2 (RDs.append rvs1 rvs2) p' hp'
                  · exact pp.elim
        | _ => exact pp.elim
      | _ => exact pp.elim
theorem u3 (l b : Addr) (items items2 : Array Value) (n n2 : Nat) (dd dd2 : Option Addr) (sl sl2 : Array (Option Value)) (hc0 : items.isEmpty = true) :
    Meets (Builtin.«tuple.__add__» ⟨[.ref l, .ref b], []⟩) (fun _ R s => s.heap.get? l = some { cls := .type "tuple", dict := dd, data := .seq items n, slots := sl } ∧ s.heap.get? b = some { cls := .type "tuple", dict := dd2, data := .seq items2 n2, slots := sl2 } ∧ R (.ok (.ret (Value.ref b))) s) :=
  .of_wp fun prog w A R s h => by obtain ⟨hp, g, d, tk, os⟩ := s; obtain ⟨hl, hb, h⟩ := h; have f1 := PySem.AutoSeq1.idx_int; have f2 := PySem.AutoSeq1.sub_tuple_tuple; wp_walk using wpAny_loadPart' hl, wpAny_loadPart' hb; exact ⟨_, rfl, h⟩
def CB (K : PySem.W.Frag) : R2 := fun x y H Q => ∃ a b ys, x = .ref a ∧ y = .ref b ∧ SqT K H a [] ∧ SqT K H b ys ∧ Q (.ref b) H
theorem Eu : OpR X (binaryOp .Add) (CB X.K) := by
  intro pins s σ H x y v u Q I rx ry h
  obtain ⟨a, b, ys, rfl, rfl, ha, hb, q⟩ := h
  cases rx
  cases ry
  obtain ⟨its, r1, p1, _⟩ := I.tuple ha
  obtain ⟨its2, r2, p2, _⟩ := I.tuple hb
  cases r1
  obtain ⟨⟨cls, dd, data, sl⟩, ho, hc, n, hd⟩ := id p1
  obtain ⟨⟨cls2, dd2, data2, sl2⟩, ho2, hc2, n2, hd2⟩ := id p2
  simp only at hc hd hc2 hd2
  subst hc hd hc2 hd2
  exact concat_meets ⟨_, ho, rfl⟩ ⟨_, ho2, rfl⟩ noFill_tuple_add seq_tuple_add PySem.F.slot_tuple_add PySem.F.entry_tuple_add (PySem.F.args_tuple_add_2 _ _)
    (u3 a b _ its2.toArray n n2 dd dd2 sl sl2 rfl) ⟨ho, ho2, ⟨.ref b, H, I, rfl, q⟩⟩
theorem ek : OpR X (binaryOp .Add) (fun x y H Q => CB X.K x y H Q ∨ uM X.K x y H Q) := Eu.or y9
theorem el {K : PySem.W.Frag} : Og K bZ (fun x y H Q => CB K x y H Q ∨ uM K x y H Q) := by
  intro ρ H σd hd σ d k v w Q rs rv rw' pp
  cases d with
  | tup xs =>
    cases k with
    | tup ys =>
      simp only [bZ] at pp
      split at pp
      · rename_i hz
        simp only [RD] at rv
        obtain ⟨a, vs, rfl, ha, rvs⟩ := rv
        have rw2 := rw'
        simp only [RD] at rw'
        obtain ⟨b, ws, rfl, hb, rws⟩ := rw'
        cases xs with
        | nil =>
          simp only [RDs] at rvs
          subst rvs
          exact .inl ⟨a, b, ws, rfl, rfl, SqT.of ha, SqT.of hb, pp.here rs (by simpa using rw2)⟩
        | cons x xs =>
          refine .inr ⟨a, b, vs, ws, rfl, rfl, SqT.of ha, SqT.of hb, ?_, ?_, fun z => ?_, fun _ q hq => ?_⟩
          · intro z; subst z; have := rvs.length; simp at this
          · rw [← rvs.length, ← rws.length]; exact ky hz
          · subst z
            have hy : ys = [] := by have := rws.length; simpa using this
            subst hy
            exact pp.here rs (by simp only [rD, RD]; exact ⟨a, vs, rfl, ha, by simpa using rvs⟩)
          · have sm := bF (o := HO.tup (vs ++ ws)) hq
            exact pp.at (Ext.same sm) (rs.same sm) (by simp only [rD, RD]; exact ⟨q, _, rfl, aT, (RDs.append rvs rws).mono (Kp.same sm)⟩)
      · exact pp.elim
    | _ => exact pp.elim
  | _ => exact pp.elim
end
end Fm
set_option linter.all false
namespace Fm
@[simp] def Ev (a b : EF) : IF := fun σ h => (a σ h).bind fun x h => (b σ h).bind fun y h => match x, y with
  | .tup l, .tup k => .ok ((l.zip k).map fun p => .tup [p.1, p.2], none) h
  | _, _ => .bad
noncomputable section
open Classical
end
end Fm
set_option Elab.async false
set_option linter.all false
set_option maxRecDepth 100000
namespace Fm
open PySem PySem.Spec L2
open PyProof.Rows (Call_)
theorem eW {h h' : Heap} {i l : Addr} {xs : Array Value} (t : h.IsTuple l xs) (e : Heap.ExtBut i h h') (n : l ≠ i) : h'.IsTuple l xs := by
  obtain ⟨o, ho, r⟩ := t
  exact ⟨o, e _ _ n ho, r⟩
section
variable {prog : Program} {w : World} {A : Around} {E : Value → Shared → Prop} {s : Shared} {z TI TO i1 i2 l1 l2 : Addr} {k : Nat} {xs ys : Array Value} {a b : Value}
theorem Aj {x y : Value} {Q : Value → Shared → Prop} (Z : ZipApart z TI TO i1 i2 l1 l2) (gz : IsZip s.heap z TI TO .none) (gI : IsPair s.heap TI (.ref i1) (.ref i2)) (gO : IsPair s.heap TO a b)
    (t1 : s.heap.IsTupleIter i1 l1 k) (t2 : s.heap.IsTupleIter i2 l2 k) (u1 : s.heap.IsTuple l1 xs) (u2 : s.heap.IsTuple l2 ys) (ex : xs[k]? = some x) (ey : ys[k]? = some y)
    (q : ∀ h', IsZip h' z TI TO (rawInt s.heap.objs.size) → IsPair h' TO x y → h'.IsTupleIter i1 l1 (k + 1) → h'.IsTupleIter i2 l2 (k + 1) → IsPair h' s.heap.objs.size x y → h'.objs.size = s.heap.objs.size + 1 →
      (∀ c o, c ≠ z → c ≠ TO → c ≠ i1 → c ≠ i2 → s.heap.get? c = some o → h'.get? c = some o) → Q (.ref s.heap.objs.size) { s with heap := h' }) :
    wpAny (model prog w) A (Builtin.«zip.__next__» ⟨[.ref z], []⟩) (fun fin s' => ∃ v, fin = .done (.ret v) ∧ Q v s') E s := by
  show wpAny _ _ (field (.ref z) 2 >>= fun _ => _) _ _ _
  refine wpAny_bind (wpAny_field gz rfl (x := .bool false) rfl ?_)
  show wpAny _ _ (field (.ref z) 3 >>= fun _ => _) _ _ _
  refine wpAny_bind (wpAny_field gz rfl (x := .ref TI) rfl (wpAny_bind (wpAny_seqItems gI rfl ?_)))
  show wpAny _ _ (Builtin.SmallTypes.ownedTupleIsFree (.ref z) >>= fun _ => _) _ _ _
  unfold Builtin.SmallTypes.ownedTupleIsFree
  refine wpAny_bind (wpAny_bind (wpAny_field gz rfl (x := .none) rfl (wpAny_pure ?_)))
  simp only [if_true]
  refine wpAny_bind (wpAny_rule (wpAny_bind (wpAny_field gz rfl (x := .ref TO) rfl (wpAny_bind (wpAny_setField_rec gz (by simp) fun g1 gz1 b1 => wpAny_bind ?_)))))
  replace gz1 : IsZip g1 z TI TO .ellipsis := gz1
  simp only [List.zipIdx_cons, List.zipIdx_nil, List.forIn_cons, List.forIn_nil]
  refine wpAny_bind (wpAny_bind (wpAny_onRaise ?_))
  show wpAny _ _ (Builtin.SmallTypes.nextOf (.ref i1) >>= fun _ => _) _ _ _
  refine wpAny_bind (c8 (t1.extBut b1.extBut Z.i1z) (eW u1 b1.extBut Z.l1z) ex fun g2 t12 b2 => wpAny_pure ?_)
  have gO2 : IsPair g2 TO a b := b2.extBut _ _ Z.TOi1 (b1.extBut _ _ Z.TOz gO)
  refine wpAny_bind (wpAny_seqItems gO2 rfl (wpAny_bind (wpAny_updateSeq_pair gO2 fun g3 gO3 b3 => wpAny_bind (wpAny_letGo (wpAny_pure ?_)))))
  replace gO3 : IsPair g3 TO x b := gO3
  refine wpAny_bind (wpAny_bind (wpAny_onRaise ?_))
  show wpAny _ _ (Builtin.SmallTypes.nextOf (.ref i2) >>= fun _ => _) _ _ _
  refine wpAny_bind (c8 (((t2.extBut b1.extBut Z.i2z).extBut b2.extBut Z.i12.symm).extBut b3.extBut Z.TOi2.symm) (eW (eW (eW u2 b1.extBut Z.l2z) b2.extBut Z.l2i1) b3.extBut Z.l2TO) ey fun g4 t24 b4 => wpAny_pure ?_)
  have gO4 : IsPair g4 TO x b := b4.extBut _ _ Z.TOi2 gO3
  refine wpAny_bind (wpAny_seqItems gO4 rfl (wpAny_bind (wpAny_updateSeq_pair gO4 fun g5 gO5 b5 => wpAny_bind (wpAny_letGo (wpAny_pure (wpAny_pure ?_))))))
  replace gO5 : IsPair g5 TO x y := gO5
  refine wpAny_bind (wpAny_seqItems gO5 rfl (wpAny_bind (wpAny_newTuple ?_)))
  have sz : g5.objs.size = s.heap.objs.size := by rw [b5.1, b4.1, b3.1, b2.1, b1.1]
  have gz5 : IsZip g5 z TI TO .ellipsis := b5.extBut _ _ Z.TOz.symm (b4.extBut _ _ Z.i2z.symm (b3.extBut _ _ Z.TOz.symm (b2.extBut _ _ Z.i1z.symm gz1)))
  have kp : ∀ c o, c ≠ z → c ≠ TO → c ≠ i1 → c ≠ i2 → s.heap.get? c = some o → g5.get? c = some o := fun c o n1 n2 n3 n4 e => b5.extBut _ _ n2 (b4.extBut _ _ n4 (b3.extBut _ _ n2 (b2.extBut _ _ n3 (b1.extBut _ _ n1 e))))
  have t15 : g5.IsTupleIter i1 l1 (k + 1) := ((t12.extBut b3.extBut Z.TOi1.symm).extBut b4.extBut Z.i12).extBut b5.extBut Z.TOi1.symm
  have t25 : g5.IsTupleIter i2 l2 (k + 1) := t24.extBut b5.extBut Z.TOi2.symm
  have zl : z < g5.objs.size := Heap.lt_size gz5
  show wpAny _ _ (Builtin.SmallTypes.ownedTupleHandOut (.ref z) (.ref g5.objs.size) >>= fun _ => _) _ _ _
  unfold Builtin.SmallTypes.ownedTupleHandOut
  have gz6 : IsZip (g5.push { cls := .type "tuple", data := .seq #[x, y] }) z TI TO .ellipsis := Heap.get?_push_of_some _ gz5
  refine wpAny_bind (wpAny_bind (wpAny_setField_rec gz6 (by simp) fun g7 gz7 b7 => ?_))
  replace gz7 : IsZip g7 z TI TO (rawInt g5.objs.size) := gz7
  refine wpAny_setField_rec gz7 (by simp) fun g8 gz8 b8 => ?_
  replace gz8 : IsZip g8 z TI TO (rawInt g5.objs.size) := gz8
  have up : ∀ c o, c ≠ z → g5.get? c = some o → g8.get? c = some o := fun c o n1 e => b8.extBut _ _ n1 (b7.extBut _ _ n1 (Heap.get?_push_of_some _ e))
  have gT : IsPair g8 g5.objs.size x y := b8.extBut _ _ (Nat.ne_of_gt zl) (b7.extBut _ _ (Nat.ne_of_gt zl) (Heap.get?_push_size _ rfl))
  have s8 : g8.objs.size = g5.objs.size + 1 := by rw [b8.1, b7.1, Heap.size_push]
  rw [sz] at gz8 gT s8
  refine wpAny_pure ⟨_, rfl, ?_⟩
  show Q (.ref g5.objs.size) _
  rw [sz]
  exact q g8 gz8 (up _ _ Z.TOz gO5) (let ⟨o, e, r⟩ := t15; ⟨o, up _ o Z.i1z e, r⟩) (let ⟨o, e, r⟩ := t25; ⟨o, up _ o Z.i2z e, r⟩) gT s8 fun c o n1 n2 n3 n4 e => up c o n1 (kp c o n1 n2 n3 n4 e)
theorem CC {Q : Fin → Shared → Prop} (hh : A.handled = none) (Z : ZipApart z TI TO i1 i2 l1 l2) (gz : IsZip s.heap z TI TO .none) (gI : IsPair s.heap TI (.ref i1) (.ref i2)) (gO : IsPair s.heap TO a b)
    (t1 : s.heap.IsTupleIter i1 l1 k) (t2 : s.heap.IsTupleIter i2 l2 k) (u1 : s.heap.IsTuple l1 xs) (u2 : s.heap.IsTuple l2 ys) (nd : xs[k]? = none ∨ ys[k]? = none)
    (q : ∀ h' e, (∀ c o, c ≠ z → c ≠ TO → c ≠ i1 → c ≠ i2 → s.heap.get? c = some o → h'.get? c = some o) → (∃ o, h'.get? e = some o ∧ o.cls = .type "StopIteration") → E (.ref e) { s with heap := h' }) :
    wpAny (model prog w) A (Builtin.«zip.__next__» ⟨[.ref z], []⟩) Q E s := by
  show wpAny _ _ (field (.ref z) 2 >>= fun _ => _) _ _ _
  refine wpAny_bind (wpAny_field gz rfl (x := .bool false) rfl ?_)
  show wpAny _ _ (field (.ref z) 3 >>= fun _ => _) _ _ _
  refine wpAny_bind (wpAny_field gz rfl (x := .ref TI) rfl (wpAny_bind (wpAny_seqItems gI rfl ?_)))
  show wpAny _ _ (Builtin.SmallTypes.ownedTupleIsFree (.ref z) >>= fun _ => _) _ _ _
  unfold Builtin.SmallTypes.ownedTupleIsFree
  refine wpAny_bind (wpAny_bind (wpAny_field gz rfl (x := .none) rfl (wpAny_pure ?_)))
  simp only [if_true]
  refine wpAny_bind (wpAny_rule (wpAny_bind (wpAny_field gz rfl (x := .ref TO) rfl (wpAny_bind (wpAny_setField_rec gz (by simp) fun g1 gz1 b1 => wpAny_bind ?_)))))
  replace gz1 : IsZip g1 z TI TO .ellipsis := gz1
  simp only [List.zipIdx_cons, List.zipIdx_nil, List.forIn_cons, List.forIn_nil]
  refine wpAny_bind (wpAny_bind (wpAny_onRaise ?_))
  show wpAny _ _ (Builtin.SmallTypes.nextOf (.ref i1) >>= fun _ => _) _ _ _
  cases ex : xs[k]? with
  | none =>
    refine wpAny_bind (eB hh (t1.extBut b1.extBut Z.i1z) (eW u1 b1.extBut Z.l1z) ex fun g2 e b2 he => ?_)
    obtain ⟨oe, ho, hc⟩ := he
    have gz2 : IsZip g2 z TI TO .ellipsis := b2 _ _ Z.i1z.symm gz1
    have ne : e ≠ z := fun v => by subst v; rw [gz2] at ho; cases ho; simp at hc
    exact wpAny_setField_rec gz2 (by simp) fun g3 _ b3 => q g3 e (fun c o n1 _ n3 _ v => b3.extBut _ _ n1 (b2 _ _ n3 (b1.extBut _ _ n1 v))) ⟨oe, b3.extBut _ _ ne ho, hc⟩
  | some x =>
    have ey : ys[k]? = none := nd.resolve_left (by rw [ex]; exact Option.some_ne_none _)
    refine wpAny_bind (c8 (t1.extBut b1.extBut Z.i1z) (eW u1 b1.extBut Z.l1z) ex fun g2 t12 b2 => wpAny_pure ?_)
    have gO2 : IsPair g2 TO a b := b2.extBut _ _ Z.TOi1 (b1.extBut _ _ Z.TOz gO)
    refine wpAny_bind (wpAny_seqItems gO2 rfl (wpAny_bind (wpAny_updateSeq_pair gO2 fun g3 gO3 b3 => wpAny_bind (wpAny_letGo (wpAny_pure ?_)))))
    refine wpAny_bind (wpAny_bind (wpAny_onRaise ?_))
    show wpAny _ _ (Builtin.SmallTypes.nextOf (.ref i2) >>= fun _ => _) _ _ _
    refine wpAny_bind (eB hh (((t2.extBut b1.extBut Z.i2z).extBut b2.extBut Z.i12.symm).extBut b3.extBut Z.TOi2.symm) (eW (eW (eW u2 b1.extBut Z.l2z) b2.extBut Z.l2i1) b3.extBut Z.l2TO) ey fun g4 e b4 he => ?_)
    obtain ⟨oe, ho, hc⟩ := he
    have gz4 : IsZip g4 z TI TO .ellipsis := b4 _ _ Z.i2z.symm (b3.extBut _ _ Z.TOz.symm (b2.extBut _ _ Z.i1z.symm gz1))
    have ne : e ≠ z := fun v => by subst v; rw [gz4] at ho; cases ho; simp at hc
    exact wpAny_setField_rec gz4 (by simp) fun g5 _ b5 => q g5 e (fun c o n1 n2 n3 n4 v => b5.extBut _ _ n1 (b4 _ _ n4 (b3.extBut _ _ n2 (b2.extBut _ _ n3 (b1.extBut _ _ n1 v))))) ⟨oe, b5.extBut _ _ ne ho, hc⟩
theorem tH {x y : Value} {Q : Option Value → Shared → Prop} (Z : ZipApart z TI TO i1 i2 l1 l2) (gz : IsZip s.heap z TI TO .none) (gI : IsPair s.heap TI (.ref i1) (.ref i2)) (gO : IsPair s.heap TO a b)
    (t1 : s.heap.IsTupleIter i1 l1 k) (t2 : s.heap.IsTupleIter i2 l2 k) (u1 : s.heap.IsTuple l1 xs) (u2 : s.heap.IsTuple l2 ys) (ex : xs[k]? = some x) (ey : ys[k]? = some y)
    (q : ∀ h', IsZip h' z TI TO (rawInt s.heap.objs.size) → IsPair h' TO x y → h'.IsTupleIter i1 l1 (k + 1) → h'.IsTupleIter i2 l2 (k + 1) → IsPair h' s.heap.objs.size x y → h'.objs.size = s.heap.objs.size + 1 →
      (∀ c o, c ≠ z → c ≠ TO → c ≠ i1 → c ≠ i2 → s.heap.get? c = some o → h'.get? c = some o) → Q (some (.ref s.heap.objs.size)) { s with heap := h' }) :
    wpAny (model prog w) A (pyNext (.ref z)) Q E s := by
  have ty : s.TypeIs (.ref z) "zip" := ⟨_, gz, rfl⟩
  unfold pyNext
  refine wpAny_bind (wpAny_attempt (wpAny_callSpecial?_slot (name := Str.ofString "__next__") ty F.slot_zip_next (wpAny_call_entry F.slot_zip_next ty F.entry_zip_next ?_ (F.args_zip_next_1 _))))
  exact Aj Z gz gI gO t1 t2 u1 u2 ex ey fun h' a1 a2 a3 a4 a5 a6 a7 => wpAny_pure (q h' a1 a2 a3 a4 a5 a6 a7)
theorem u4 {Q : Option Value → Shared → Prop} (hh : A.handled = none) (Z : ZipApart z TI TO i1 i2 l1 l2) (gz : IsZip s.heap z TI TO .none) (gI : IsPair s.heap TI (.ref i1) (.ref i2)) (gO : IsPair s.heap TO a b)
    (t1 : s.heap.IsTupleIter i1 l1 k) (t2 : s.heap.IsTupleIter i2 l2 k) (u1 : s.heap.IsTuple l1 xs) (u2 : s.heap.IsTuple l2 ys) (nd : xs[k]? = none ∨ ys[k]? = none)
    (q : ∀ h', (∀ c o, c ≠ z → c ≠ TO → c ≠ i1 → c ≠ i2 → s.heap.get? c = some o → h'.get? c = some o) → Q none { s with heap := h' }) : wpAny (model prog w) A (pyNext (.ref z)) Q E s := by
  have ty : s.TypeIs (.ref z) "zip" := ⟨_, gz, rfl⟩
  unfold pyNext
  refine wpAny_bind (wpAny_attempt (wpAny_callSpecial?_slot (name := Str.ofString "__next__") ty F.slot_zip_next (wpAny_call_entry F.slot_zip_next ty F.entry_zip_next ?_ (F.args_zip_next_1 _))))
  refine CC hh Z gz gI gO t1 t2 u1 u2 nd fun h' e kk he => ?_
  obtain ⟨o, ho, hc⟩ := he
  exact wpAny_bind (wpAny_isInstance (T := "StopIteration") (b := true) ⟨o, ho, hc⟩ isSubtype_stop (wpAny_pure (q _ kk)))
end
def zt1 (h : Heap) (l1 : Addr) : Heap := h.push { cls := .type "tuple_iterator", data := .fields #[.ref l1, .int 0 0] }
def zt2 (h : Heap) (l1 l2 : Addr) : Heap := (zt1 h l1).push { cls := .type "tuple_iterator", data := .fields #[.ref l2, .int 0 0] }
def zt3 (h : Heap) (l1 l2 : Addr) : Heap := (zt2 h l1 l2).push { cls := .type "tuple", data := .seq #[.ref h.objs.size, .ref (zt1 h l1).objs.size] }
def zt4 (h : Heap) (l1 l2 : Addr) : Heap := (zt3 h l1 l2).push { cls := .type "tuple", data := .seq #[.none, .none] }
def zt5 (h : Heap) (l1 l2 : Addr) : Heap := (zt4 h l1 l2).push { cls := .type "zip", data := .fields #[.none, .bool false, .bool false, .ref (zt2 h l1 l2).objs.size, .ref (zt3 h l1 l2).objs.size] }
theorem wX (l1 l2 : Addr) (xs ys : Array Value) :
    Meets (Builtin.«zip.__new__» ⟨[.type "zip", .ref l1, .ref l2], []⟩) (fun _ R s => s.heap.IsTuple l1 xs ∧ s.heap.IsTuple l2 ys ∧ R (.ok (.ret (.ref (zt4 s.heap l1 l2).objs.size))) { s with heap := zt5 s.heap l1 l2 }) :=
  .of_wp fun prog w A R s h => by
    obtain ⟨hp, g, d, tk, os⟩ := s; obtain ⟨u1, u2, h⟩ := h
    have hsub := sub_zip
    have T1 : Heap.IsTuple (Shared.heap ⟨hp, g, d, tk, os⟩) l1 xs := u1
    have T2 : Heap.IsTuple (Shared.heap ⟨hp.push { cls := .type "tuple_iterator", data := .fields #[.ref l1, .int 0 0] }, g, d, tk, os⟩) l2 ys := by
      obtain ⟨o, ho, r⟩ := u2
      exact ⟨o, Heap.get?_push_of_some _ ho, r⟩
    wp_walk using wpAny_pyIter_tuple T1, wpAny_pyIter_tuple T2
    exact ⟨_, rfl, h⟩
section
variable {prog : Program} {w : World} {A : Around} {E : Value → Shared → Prop} {s : Shared}
theorem Ak {l1 l2 : Addr} {xs ys : Array Value} {Q : Value → Shared → Prop} (u1 : s.heap.IsTuple l1 xs) (u2 : s.heap.IsTuple l2 ys)
    (q : ∀ h', IsZip h' (s.heap.objs.size + 4) (s.heap.objs.size + 2) (s.heap.objs.size + 3) .none → IsPair h' (s.heap.objs.size + 2) (.ref s.heap.objs.size) (.ref (s.heap.objs.size + 1)) →
      IsPair h' (s.heap.objs.size + 3) .none .none → h'.IsTupleIter s.heap.objs.size l1 0 → h'.IsTupleIter (s.heap.objs.size + 1) l2 0 → h'.objs.size = s.heap.objs.size + 5 →
      (∀ c o, s.heap.get? c = some o → h'.get? c = some o) → Q (.ref (s.heap.objs.size + 4)) { s with heap := h' }) :
    wpAny (model prog w) A (call (.type "zip") [.ref l1, .ref l2]) Q E s := by
  refine callType_new F.called_zip (by decide) (F.typeCall_zip_2 _ _) (F.newCall_zip_2 _ _) (fun obj => F.args_object_init_3 obj _ _) F.entry_zip_new (wX l1 l2 xs ys) ⟨u1, u2, ?_⟩
  have z1 : (zt1 s.heap l1).objs.size = s.heap.objs.size + 1 := Heap.size_push ..
  have z2 : (zt2 s.heap l1 l2).objs.size = s.heap.objs.size + 2 := (Heap.size_push ..).trans (by rw [z1])
  have z3 : (zt3 s.heap l1 l2).objs.size = s.heap.objs.size + 3 := (Heap.size_push ..).trans (by rw [z2])
  have z4 : (zt4 s.heap l1 l2).objs.size = s.heap.objs.size + 4 := (Heap.size_push ..).trans (by rw [z3])
  have z5 : (zt5 s.heap l1 l2).objs.size = s.heap.objs.size + 5 := (Heap.size_push ..).trans (by rw [z4])
  have p1 : ∀ {c o}, (zt1 s.heap l1).get? c = some o → (zt5 s.heap l1 l2).get? c = some o := fun e => Heap.get?_push_of_some _ (Heap.get?_push_of_some _ (Heap.get?_push_of_some _ (Heap.get?_push_of_some _ e)))
  have p2 : ∀ {c o}, (zt2 s.heap l1 l2).get? c = some o → (zt5 s.heap l1 l2).get? c = some o := fun e => Heap.get?_push_of_some _ (Heap.get?_push_of_some _ (Heap.get?_push_of_some _ e))
  have p3 : ∀ {c o}, (zt3 s.heap l1 l2).get? c = some o → (zt5 s.heap l1 l2).get? c = some o := fun e => Heap.get?_push_of_some _ (Heap.get?_push_of_some _ e)
  have g1 : (zt5 s.heap l1 l2).get? s.heap.objs.size = some { cls := .type "tuple_iterator", data := .fields #[.ref l1, .int 0 0] } := p1 (Heap.get?_push_size _ rfl)
  have g2 : (zt5 s.heap l1 l2).get? (s.heap.objs.size + 1) = some { cls := .type "tuple_iterator", data := .fields #[.ref l2, .int 0 0] } := by rw [← z1]; exact p2 (Heap.get?_push_size _ rfl)
  have g3 : (zt5 s.heap l1 l2).get? (s.heap.objs.size + 2) = some { cls := .type "tuple", data := .seq #[.ref s.heap.objs.size, .ref (s.heap.objs.size + 1)] } := by rw [← z2, ← z1]; exact p3 (Heap.get?_push_size _ rfl)
  have g4 : (zt5 s.heap l1 l2).get? (s.heap.objs.size + 3) = some { cls := .type "tuple", data := .seq #[.none, .none] } := by rw [← z3]; exact Heap.get?_push_of_some _ (Heap.get?_push_size _ rfl)
  have g5 : (zt5 s.heap l1 l2).get? (s.heap.objs.size + 4) = some { cls := .type "zip", data := .fields #[.none, .bool false, .bool false, .ref (s.heap.objs.size + 2), .ref (s.heap.objs.size + 3)] } := by rw [← z4, ← z2, ← z3]; exact Heap.get?_push_size _ rfl
  show _ ∧ _
  rw [z4]
  exact ⟨⟨_, g5, rfl⟩, q _ g5 g3 g4 ⟨_, g1, rfl, rfl⟩ ⟨_, g2, rfl, rfl⟩ z5 fun c o e => p1 (Heap.get?_push_of_some _ e)⟩
end
theorem Ew {X : Cx} {pins : List (Addr × Obj)} {σ : St} {H : Hp} {s : Shared} {h' : Heap} {t' : Nat} {ch : List Addr} (I : L2.Inv X pins σ H s) (k : ∀ b o, b ∉ ch → s.heap.get? b = some o → h'.get? b = some o) (hf : ∀ b ∈ ch, m5 X pins H b) :
    L2.Inv X pins σ H { s with heap := h', toks := t' } := by
  have nit : ∀ b u, H b = some u → b ∉ ch := fun b u e z => by rw [(hf b z).1] at e; cases e
  refine I.step (g' := s.gens) (d' := s.drawn) (ch := ch) (fun b hb => ⟨(hf b hb).2.2.2.1, (hf b hb).2.1, (hf b hb).2.2.2.2.1, (hf b hb).2.2.2.2.2⟩) (fun b o _ _ hc e _ => k b o hc e) (fun b o _ _ hc e _ => ⟨o.slots, k b o hc e⟩) (fun _ _ _ _ n => n)
    (fun b o hc e => ⟨o, k b o hc e⟩) (fun _ _ e => e) (fun _ _ _ e => e) (fun b ps e => ⟨#[], by rw [e]; simp⟩) (fun m hm => ?_) (fun b u e => ?_) I.bare
  · obtain ⟨o, es, ep, ho, r⟩ := hm
    exact ⟨o, es, ep, k _ o (fun z => (hf _ z).2.1 rfl) ho, r⟩
  · refine (I.hok b u e).stay (fun c v hc q => k c v ?_ q) (fun _ q => q) fun _ _ q => q
    rcases hc with z | z
    · rw [z]; exact nit b u e
    · exact nit c _ z
def Itz (K : PySem.W.Frag) (a b : Addr) : It :=
  ⟨fun i H => ∃ xs ys x y, SqT K H a xs ∧ SqT K H b ys ∧ xs[i]? = some x ∧ ys[i]? = some y, fun i H x H' => ∃ q v u, x = .ref q ∧ H q = none ∧ H' = upd H q (.tup [v, u]) ∧ (∀ xs, SqT K H a xs → xs[i]? = some v) ∧ ∀ ys, SqT K H b ys → ys[i]? = some u, fun i H => ∃ xs ys, SqT K H a xs ∧ SqT K H b ys ∧ min xs.length ys.length = i⟩
theorem CF {P : Program} {w : World} {K : PySem.W.Frag} {elts : List Expr} {k : Nat} {pos : Pos} (z TI TO i1 i2 a b : Addr) (Z : ZipApart z TI TO i1 i2 a b) :
    wF P w K (.Tuple elts k pos) (Itz K a b) [z, TI, TO, i1, i2] z (fun i h => IsZip h z TI TO .none ∧ IsPair h TI (.ref i1) (.ref i2) ∧ (∃ x y, IsPair h TO x y) ∧ h.IsTupleIter i1 a i ∧ h.IsTupleIter i2 b i) where
  mem := by simp
  obj := fun i h st c hc => by
    obtain ⟨gz, gI, ⟨x, y, gO⟩, ⟨o1, q1, c1, d1⟩, ⟨o2, q2, c2, d2⟩⟩ := st
    have hc' : c = z ∨ c = TI ∨ c = TO ∨ c = i1 ∨ c = i2 := by simpa using hc
    rcases hc' with rfl | rfl | rfl | rfl | rfl
    · exact ⟨_, gz, fun v e => by
        have e' : Data.fields _ = Data.cell v := e
        cases e'⟩
    · exact ⟨_, gI, fun v e => by
        have e' : Data.seq _ _ = Data.cell v := e
        cases e'⟩
    · exact ⟨_, gO, fun v e => by
        have e' : Data.seq _ _ = Data.cell v := e
        cases e'⟩
    · exact ⟨o1, q1, fun v e => by rw [d1] at e; cases e⟩
    · exact ⟨o2, q2, fun v e => by rw [d2] at e; cases e⟩
  keep := fun i h h' st kk => by
    obtain ⟨gz, gI, ⟨x, y, gO⟩, ⟨o1, q1, r1⟩, ⟨o2, q2, r2⟩⟩ := st
    exact ⟨kk z (by simp) _ gz, kk TI (by simp) _ gI, ⟨x, y, kk TO (by simp) _ gO⟩, ⟨o1, kk i1 (by simp) _ q1, r1⟩, ⟨o2, kk i2 (by simp) _ q2, r2⟩⟩
  item := by
    intro X hP hw hK hc i pins s σ H E I hf st hg
    subst hP hw hK
    obtain ⟨gz, gI, ⟨x0, y0, gO⟩, t1, t2⟩ := st
    obtain ⟨xs, ys, x, y, hq1, hq2, hx, hy⟩ := hg
    obtain ⟨is1, rv1, p1, hz1⟩ := I.tuple hq1
    obtain ⟨is2, rv2, p2, hz2⟩ := I.tuple hq2
    obtain ⟨u, hu, ru⟩ := rv1.get hx
    obtain ⟨v, hv, rv⟩ := rv2.get hy
    have T1 : s.heap.IsTuple a is1.toArray := p1
    have T2 : s.heap.IsTuple b is2.toArray := p2
    have ld := fun c (h : c ∈ [z, TI, TO, i1, i2]) => hf c h
    refine tH Z gz gI gO t1 t2 T1 T2 (by simpa using hu) (by simpa using hv) fun h' az aO a1 a2 aN asz kk => ⟨_, rfl, wpAny_letOwnedTupleGo_zip az fun h2 az2 b2 => ?_⟩
    have zl : z < s.heap.objs.size := Heap.lt_size gz
    have Il : TI < s.heap.objs.size := Heap.lt_size gI
    have Ol : TO < s.heap.objs.size := Heap.lt_size gO
    have l1 : i1 < s.heap.objs.size := by obtain ⟨_, e, _⟩ := t1; exact Heap.lt_size e
    have l2 : i2 < s.heap.objs.size := by obtain ⟨_, e, _⟩ := t2; exact Heap.lt_size e
    have hN : H s.heap.objs.size = none := I.hok.fresh (Nat.le_refl _)
    have keep : ∀ c o, c ∉ [z, TO, i1, i2] → s.heap.get? c = some o → h2.get? c = some o := fun c o hc e => by
      have hc' : c ≠ z ∧ c ≠ TO ∧ c ≠ i1 ∧ c ≠ i2 := by simpa using hc
      exact (b2.2 c hc'.1).trans (kk c o hc'.1 hc'.2.1 hc'.2.2.1 hc'.2.2.2 e)
    have nw : IsPair h2 s.heap.objs.size u v := (b2.2 _ (Nat.ne_of_gt zl)).trans aN
    have sub : ∀ c ∈ [z, TO, i1, i2], c ∈ [z, TI, TO, i1, i2] := fun c hc => by simp at hc ⊢; rcases hc with e | e | e | e <;> simp [e]
    have hTI2 : IsPair h2 TI (.ref i1) (.ref i2) := keep TI _ (by simp; exact ⟨Z.TIz, Z.TITO, Z.TIi1, Z.TIi2⟩) gI
    refine ⟨.ref s.heap.objs.size, upd H s.heap.objs.size (.tup [x, y]), ?_, rfl, ⟨_, x, y, rfl, hN, rfl, fun zs hzs => by rw [I.tuple_inj hzs hq1]; exact hx, fun zs hzs => by rw [I.tuple_inj hzs hq2]; exact hy⟩,
      ⟨az2, hTI2, ⟨_, _, (b2.2 _ Z.TOz).trans aO⟩, (let ⟨o, e, r⟩ := a1; ⟨o, (b2.2 _ Z.i1z).trans e, r⟩), (let ⟨o, e, r⟩ := a2; ⟨o, (b2.2 _ Z.i2z).trans e, r⟩)⟩, fun c hc => ?_⟩
    · suffices I2 : L2.Inv X pins σ (upd H s.heap.objs.size (.tup [x, y])) { s with heap := h2, gens := s.gens, drawn := s.drawn, toks := s.toks } from I2
      have nch : ∀ c u', H c = some u' → c ∉ [z, TO, i1, i2] := fun c u' e q => by rw [(hf c (sub c q)).1] at e; cases e
      refine I.step (g' := s.gens) (d' := s.drawn) (t' := s.toks) (ch := [z, TO, i1, i2]) (fun c hc => ?_) (fun c o _ _ hc q _ => keep c o hc q) (fun c o _ _ hc q _ => ⟨o.slots, keep c o hc q⟩) (fun c o _ q n => ?_) (fun c o hc q => ⟨o, keep c o hc q⟩)
        (fun c zs q => ?_) (fun c o u' q => ?_) (fun c ps q => ⟨#[], ?_⟩) (fun m hm => ?_) (fun c u' q => ?_) I.bare
      · have := hf c (sub c hc)
        exact ⟨this.2.2.2.1, this.2.1, this.2.2.2.2.1, this.2.2.2.2.2⟩
      · rw [aA (Nat.ne_of_lt (Heap.lt_size q))]; exact n
      · rw [aA (a8 q hN)]; exact q
      · rw [aA (a8 q hN)]; exact q
      · rw [aA (a8 q hN), q]; simp
      · obtain ⟨o, es, ep, ho, r⟩ := hm
        exact ⟨o, es, ep, keep _ o (fun q => (hf _ (sub _ q)).2.1 rfl) ho, r⟩
      · by_cases hb : c = s.heap.objs.size
        · subst hb
          rw [aT] at q
          cases q
          exact ⟨by show 2 ≤ sizeLine; rw [sizeLine_eq]; decide, [u, v], .cons ru (.cons rv .nil), _, nw, rfl, _, rfl⟩
        · rw [aA hb] at q
          refine (I.hok c u' q).stay (fun d v' hd' e => ?_) (fun d e => by rw [aA (a8 e hN)]; exact e) fun d zs e => by rw [aA (a8 e hN)]; exact e
          rcases hd' with e' | e'
          · subst e'; exact keep d v' (nch d _ q) e
          · exact keep d v' (nch d _ e') e
    · have hc' : c = z ∨ c = TI ∨ c = TO ∨ c = i1 ∨ c = i2 := by simpa using hc
      have : c ≠ s.heap.objs.size := by rcases hc' with e | e | e | e | e <;> rw [e] <;> exact Nat.ne_of_lt (by assumption)
      rw [aA this]
      exact (hf c hc).1
  done := by
    intro X hP hw hK hc i pins s σ H E I hf st hg
    subst hP hw hK
    obtain ⟨gz, gI, ⟨x0, y0, gO⟩, t1, t2⟩ := st
    obtain ⟨xs, ys, hq1, hq2, hi⟩ := hg
    obtain ⟨is1, rv1, p1, hz1⟩ := I.tuple hq1
    obtain ⟨is2, rv2, p2, hz2⟩ := I.tuple hq2
    have T1 : s.heap.IsTuple a is1.toArray := p1
    have T2 : s.heap.IsTuple b is2.toArray := p2
    have e1 := rv1.length
    have e2 := rv2.length
    have nd : is1.toArray[i]? = none ∨ is2.toArray[i]? = none := by
      rcases Nat.le_total xs.length ys.length with h | h
      · exact .inl (Array.getElem?_eq_none (by simp; omega))
      · exact .inr (Array.getElem?_eq_none (by simp; omega))
    have sub : ∀ c ∈ [z, TO, i1, i2], c ∈ [z, TI, TO, i1, i2] := fun c hc => by simp at hc ⊢; rcases hc with e | e | e | e <;> simp [e]
    refine u4 (I.ok.hd hc) Z gz gI gO t1 t2 T1 T2 nd fun h' kk => ⟨rfl, Ew (t' := s.toks) (ch := [z, TO, i1, i2]) I (fun c o hc e => ?_) fun c hc => hf c (sub c hc)⟩
    have hc' : c ≠ z ∧ c ≠ TO ∧ c ≠ i1 ∧ c ≠ i2 := by simpa using hc
    exact kk c o hc'.1 hc'.2.1 hc'.2.2.1 hc'.2.2.2 e
  self := fun _ _ _ _ _ st h => wpAny_pyIter_zip st.1 h
section
variable {X : Cx} {pos p tp : Pos} {elts : List Expr} {tk : Nat}
def iZp (K : PySem.W.Frag) (ta : TA) : TI := fun σ H R => ta σ H fun vs H1 => ∃ a b xs ys, vs = [.ref a, .ref b] ∧ SqT K H1 a xs ∧ SqT K H1 b ys ∧ (xs.length ≤ sizeLine → ys.length ≤ sizeLine → R (Itz K a b) H1)
theorem GQ {a b : Expr} {ta : TA} (hg : Gl X "zip") (hm : X.mg "zip" = none) (ha : PA X [a, b] ta) (hs : starEach [a, b] X.env = [(false, eval a X.env), (false, eval b X.env)] := by rfl) (hs2 : starEach [b] X.env = [(false, eval b X.env)] := by rfl) : PI X (.Tuple elts tk tp) (.Call (.Name "zip" p) [a, b] [] pos) (iZp X.K ta) := by
  intro pins s σ H R I h
  refine Call_ (lu I hg hm PyProof.Rows.boot_zip (PyProof.Rows.callWith_type1 (thn (ha pos pins s σ H _ I h) fun us s1 ⟨vs, H1, I1, r1, q1⟩ => ?_) (by rw [hs, hs2]) (by rw [hs2]; rfl)))
  obtain ⟨a1, b1, xs, ys, e, hq1, hq2, q⟩ := q1
  subst e
  cases r1 with
  | cons r rr =>
    cases rr with
    | cons r' rr =>
      cases rr
      cases r
      cases r'
      obtain ⟨is1, rv1, p1, hz1⟩ := I1.tuple hq1
      obtain ⟨is2, rv2, p2, hz2⟩ := I1.tuple hq2
      have T1 : s1.heap.IsTuple a1 is1.toArray := p1
      have T2 : s1.heap.IsTuple b1 is2.toArray := p2
      have la : a1 < s1.heap.objs.size := by obtain ⟨_, e, _⟩ := T1; exact Heap.lt_size e
      have lb : b1 < s1.heap.objs.size := by obtain ⟨_, e, _⟩ := T2; exact Heap.lt_size e
      refine Ak T1 T2 fun h' gz gI gO t1 t2 hsz hk => ?_
      refine wpAny_pyIter_zip (s := { s1 with heap := h' }) gz ?_
      have I2 : Inv X pins σ H1 { s1 with heap := h' } := I1.kept (t' := s1.toks) hk
      have Z : ZipApart (s1.heap.objs.size + 4) (s1.heap.objs.size + 2) (s1.heap.objs.size + 3) s1.heap.objs.size (s1.heap.objs.size + 1) a1 b1 := by
        constructor <;> simp only [Addr] at * <;> omega
      refine ⟨s1.heap.objs.size + 4, [s1.heap.objs.size + 4, s1.heap.objs.size + 2, s1.heap.objs.size + 3, s1.heap.objs.size, s1.heap.objs.size + 1], _, _, H1, rfl, I2, CF _ _ _ _ _ a1 b1 Z, ⟨gz, gI, ⟨_, _, gO⟩, t1, t2⟩, fun c hc => ?_, q hz1 hz2⟩
      have hc' : s1.heap.objs.size ≤ c := by
        have : c = s1.heap.objs.size + 4 ∨ c = s1.heap.objs.size + 2 ∨ c = s1.heap.objs.size + 3 ∨ c = s1.heap.objs.size ∨ c = s1.heap.objs.size + 1 := by simpa using hc
        rcases this with e | e | e | e | e <;> rw [e] <;> first | exact Nat.le_add_right _ _ | exact Nat.le_refl _
      exact I1.fpOk hc' (I1.hok.fresh hc')
theorem CG {K : PySem.W.Frag} {ρ : List Addr} {H : Hp} {hd : Hd} {q q' : Addr} {l l' : List D} {vs vs' : List V} (r : RH K ρ H hd) (hq : H q = some (.tup vs)) (rv : RDs K ρ H l vs) (hz : vs.length ≤ sizeLine) (hq' : H q' = some (.tup vs')) (rv' : RDs K ρ H l' vs') :
    nz K ρ H (Itz K q q') ((l.zip l').map fun p => .tup [p.1, p.2]) none where
  go := fun ρ' H' hd' i d ex rh _ hi => by
    have k := r.kp ex
    obtain ⟨hil, hi2⟩ := List.getElem?_eq_some_iff.mp hi
    have hl : i < l.length := by simp at hil; omega
    have hl' : i < l'.length := by simp at hil; omega
    have hd : d = .tup [l[i], l'[i]] := by rw [← hi2]; simp
    subst hd
    obtain ⟨v, hv, rd⟩ := (rv.mono k).get (i := i) (d := l[i]) (by simp [hl])
    obtain ⟨v', hv', rd'⟩ := (rv'.mono k).get (i := i) (d := l'[i]) (by simp [hl'])
    have sq : SqT K H' q vs := SqT.of (k.tup q vs hq)
    have sq' : SqT K H' q' vs' := SqT.of (k.tup q' vs' hq')
    refine ⟨⟨vs, vs', v, v', sq, sq', hv, hv'⟩, fun x H2 y => ?_⟩
    obtain ⟨q2, v2, v3, rfl, hn, rfl, y, y'⟩ := y
    have e1 := y vs sq
    have e2 := y' vs' sq'
    rw [hv] at e1
    rw [hv'] at e2
    cases e1
    cases e2
    have sm := bF (o := HO.tup [v, v']) hn
    refine ⟨sm, ?_⟩
    simp only [RD]
    exact ⟨q2, _, rfl, aT, RDs.cons (rd.mono (Kp.same sm)) (RDs.cons (rd'.mono (Kp.same sm)) RDs.nil)⟩
  stop := fun ρ' H' hd' ex rh _ => ⟨vs, vs', SqT.of ((r.kp ex).tup q vs hq), SqT.of ((r.kp ex).tup q' vs' hq'), by rw [← rv.length, ← rv'.length]; simp⟩
  sz := by
    have := rv.length
    simp; omega
theorem GR {a b : Expr} {f g : EF} (hg : Gl X "zip") (hm : X.mg "zip" = none) (ha : ME X a f) (hb : ME X b g) (hs : starEach [a, b] X.env = [(false, eval a X.env), (false, eval b X.env)] := by rfl) (hs2 : starEach [b] X.env = [(false, eval b X.env)] := by rfl) : MI X (.Tuple elts tk tp) (.Call (.Name "zip" p) [a, b] [] pos) (Ev f g) := by
  refine PI.imp (GQ hg hm (bD ha (bD hb c9 hs2) (by rw [hs, hs2])) hs hs2) fun σ H R ⟨ρ, σd, hd, rs, pp⟩ => ⟨ρ, σd, hd, rs, ?_⟩
  unfold Ev at pp
  cases e : f σd hd with
  | exc x h1 => rw [e] at pp; exact pp
  | bad => rw [e] at pp; exact pp
  | ok d hd1 =>
    rw [e] at pp
    simp only [aI] at pp
    intro v H1 ρ1 ex1 rs1 rv
    refine ⟨ρ1, σd, hd1, rs1, ?_⟩
    cases e2 : g σd hd1 with
    | exc x h1 => rw [e2] at pp; exact pp
    | bad => rw [e2] at pp; exact pp
    | ok d2 hd2 =>
      rw [e2] at pp
      simp only [aI] at pp
      intro v2 H2 ρ2 ex2 rs2 rv2
      cases d <;> try exact pp.elim
      cases d2 <;> try exact pp.elim
      rename_i l l'
      simp only at pp
      have rv := RD.mono (rs1.hp.kp ex2) rv
      simp only [rD, RD] at rv rv2
      obtain ⟨q, vs, rfl, hq, rvs⟩ := rv
      obtain ⟨q', vs', rfl, hq', rvs'⟩ := rv2
      exact ⟨q, q', vs, vs', rfl, SqT.of hq, SqT.of hq', fun hz hz' => pp _ H2 ρ2 (ex1.trans ex2) rs2 (CG rs2.hp hq rvs hz hq' rvs')⟩
end
end Fm
set_option Elab.async false
set_option linter.all false
set_option maxRecDepth 100000
namespace Fm
open PySem PySem.Spec L2 PySem.W PyProof.Rows
section
variable {X : Cx} {pos p : Pos}
end
section
variable {prog : Program} {w : World} {A : Around} {E : Value → Shared → Prop} {s : Shared}
end
section
variable {X : Cx} {pos p : Pos}
end
end Fm
set_option Elab.async false
set_option linter.all false
set_option maxRecDepth 100000
namespace Fm
open PySem PySem.Spec L2
open AutoSeq1 (wpAny_loadPart')
open PyProof.Rows (Call_)
section
variable {X : Cx} {pos p tp : Pos} {elts : List Expr} {tk : Nat}
end
section
variable {X : Cx} {pos : Pos} {tg : Expr}
end
end Fm
set_option linter.all false
namespace Fm
end Fm
set_option Elab.async false
set_option linter.all false
set_option maxRecDepth 100000
namespace Fm
open PySem PySem.Spec L2
open PyProof.Rows (Call_)
section
variable {X : Cx} {pos p p2 pos2 : Pos}
end
end Fm
set_option linter.all false
namespace Fm
end Fm
set_option linter.all false
namespace Fm
noncomputable section
open Classical
end
end Fm
set_option Elab.async false
set_option linter.all false
set_option maxRecDepth 100000
namespace Fm
open PySem PySem.Spec L2
section
variable {X : Cx} {pos : Pos} {scope : Scope} {own capn : List Str} {caps : List Nat}
end
section
variable {X : Cx}
end
end Fm
set_option Elab.async false
set_option linter.all false
set_option maxRecDepth 100000
namespace L2
open PySem PySem.Spec PyProof.Rows PySem.W PySem.Builtin PySem.Builtin.ObjectAttr PySem.Builtin.Getset_descriptor
structure nI (K : PySem.W.Frag) (D : Addr) : Prop where
  ga : PySem.W.findIn K (.ref D) "__getattribute__" = some (some (.builtin "BaseException.__getattribute__"))
  gt : PySem.W.findIn K (.ref D) "__getattr__" = some none
  cl : PySem.W.findIn K (.ref D) "__class__" = some (some (.builtin "object.__class__"))
  be : PySem.W.subIn K (.ref D) (.type "BaseException") = some true
  ob : PySem.W.mroIn K D (.type "object") = some true
  is : (PySem.W.clsIn K D).isSome = true
section
variable {prog : Program} {w : World} {A : Around} {E : Value → Shared → Prop} {K : PySem.W.Frag} {D : Addr} {h : Heap} {g : Array GenState} {d : Drawn} {t : Nat} {os : OsState} {a : Addr} {o : Obj} {vs : Array Value}
theorem ni.type {M : Model} (I : ni h a D o) : PySem.W.Looks M h (typeOf (.ref a)) (.ref D) := I.cls ▸ (PySem.W.Looks.ld I.at_).andThen .now
theorem GS {R : Result → Shared → Prop} {tp : Value} (X : K.In h) (I : ni h a D o) (hm : PySem.W.mroIn K D (.type "object") = some true) (hq : R (.ok (.ret (.ref D))) ⟨h, g, d, t, os⟩) :
    codeAny (model prog w) A (.call (.builtin "getset_descriptor.__get__") ⟨[.builtin "object.__class__", .ref a, tp], []⟩) R ⟨h, g, d, t, os⟩ := by
  have hT5 : (⟨h, g, d, t, os⟩ : Shared).TypeIs (.builtin "object.__class__") "getset_descriptor" := F.typeOf_object_class
  have L0 := I.type (M := model prog w)
  have L1 := PySem.W.looks_mroIn (M := model prog w) X hm
  refine codeAny_call_builtin F.slot_gs_get.plain F.entry_gs_get (F.slot_gs_get.check _ _ _ _ _ _ _ _ hT5 (F.args_gs_get _ _ _) ?_)
  unfold Builtin.«getset_descriptor.__get__» descrGet
  rw [PySem.W.dga_obj]
  refine wpAny_bind (wpAny_pure ?_); unfold descrGetter descrCheckInstance descrNameAndClass isInstance
  simp only [KF.owner_class]
  repeat (first | with_reducible refine L0.at ?_ | with_reducible refine L1.at ?_ | lk)
  refine ⟨Code.quiet_builtin _ (by decide +kernel), codeAny_builtin F.entry_object_class ?_⟩
  unfold Builtin.«object.__class__» shownTypeOf
  repeat (first | with_reducible refine L0.at ?_ | lk)
  exact hq
theorem CH {tk : Tok} {Q : Fin → Shared → Prop} (Z : nI K D) (X : K.In h) (I : ni h a D o) (hq : Q (.done (.ret (.ref D))) ⟨h, g, d, t, os⟩) :
    wpAny (model prog w) A (Builtin.«object.__getattribute__» ⟨[.ref a, .str "__class__" tk], []⟩) Q E ⟨h, g, d, t, os⟩ := by
  have L0 := I.type (M := model prog w)
  have L1 := PySem.W.looks_findIn (M := model prog w) X Z.cl
  have hT5 : (⟨h, g, d, t, os⟩ : Shared).TypeIs (.builtin "object.__class__") "getset_descriptor" := F.typeOf_object_class
  have f5 := F.typeOf_object_class
  have f6 := F.slot_gs_get.lookup
  have f7 := F.slot_gs_set.lookup
  repeat (any_goals (first | assumption | with_reducible refine L0.at ?_ | with_reducible refine L1.at ?_ | wp_step))
  refine GS X I Z.ob ?_
  repeat (any_goals (first | assumption | wp_step))
theorem CJ {M : Model} {nameV : Value} {Q : Unit → Shared → Prop} (Z : nI K D) (X : K.In h) (I : ni h a D o) (hq : Q () ⟨h, g, d, t, os⟩) :
    wpAny M A (checkBuiltinCall "BaseException.__getattribute__" ⟨[.ref a, nameV], []⟩) Q E ⟨h, g, d, t, os⟩ := by
  have hk : builtinKind "BaseException.__getattribute__" = some .slot := by decide +kernel
  have hsplit : splitId "BaseException.__getattribute__" = some ("BaseException", "__getattribute__") := by decide +kernel
  have ha := F.args_bexc_ga (.ref a) nameV
  have L0 := I.type (M := M)
  have L1 := PySem.W.looks_subIn (M := M) X Z.be
  simp only [checkBuiltinCall, hk, hsplit]
  refine wpAny_bind ?_
  unfold isInstance
  repeat (first | with_reducible refine L0.at ?_ | with_reducible refine L1.at ?_ | wp_step)
  exact hq
theorem Ex {tk : Tok} {R : Result → Shared → Prop} (Z : nI K D) (X : K.In h) (I : ni h a D o) (hq : R (.ok (.ret (.ref D))) ⟨h, g, d, t, os⟩) :
    codeAny (model prog w) A (.call (.builtin "BaseException.__getattribute__") ⟨[.ref a, .str "__class__" tk], []⟩) R ⟨h, g, d, t, os⟩ :=
  codeAny_call_builtin F.attr_ValueError.ga.plain F.entry_bexc_ga (CJ Z X I (CH Z X I hq))
theorem Iz {tk : Tok} {fill expr : Bool} {Q : Value → Shared → Prop} (Z : nI K D) (X : K.In h) (I : ni h a D o) (hq : Q (.ref D) ⟨h, g, d, t, os⟩) :
    wpAny (model prog w) A (getAttrBy (.ref a) (.str "__class__" tk) fill expr) Q E ⟨h, g, d, t, os⟩ := by
  have f3 := F.attr_ValueError.ga.bind (.ref a)
  have hx0 : (expr && onTheHeap (Value.builtin "BaseException.__getattribute__")) = false := by cases expr <;> rfl
  have hx2 : (Value.builtin "BaseException.__getattribute__" == Value.builtin "object.__getattribute__") = false := by decide +kernel
  have hx1 : (onTheHeap (Value.ref D) && Value.builtin "BaseException.__getattribute__" == Value.builtin "object.__getattribute__") = false := by rw [hx2]; rfl
  have L0 := I.type (M := model prog w)
  have L1 := PySem.W.looks_findIn (M := model prog w) X Z.ga
  have L2 := PySem.W.looks_findIn (M := model prog w) X Z.gt
  repeat (any_goals (first | assumption | with_reducible refine L0.at ?_ | with_reducible refine L1.at ?_ | with_reducible refine L2.at ?_ | wp_step))
  refine Ex Z X I ?_
  repeat (any_goals (first | assumption | wp_step))
theorem Ey {Q : Option Value → Shared → Prop} (Z : nI K D) (X : K.In h) (I : ni h a D o) (hq : Q (some (.ref D)) ⟨h, g, d, t + 1, os⟩) :
    wpAny (model prog w) A (getAttr? (.ref a) "__class__") Q E ⟨h, g, d, t, os⟩ := by
  unfold getAttr? getAttrBy?
  repeat (any_goals (first | assumption | with_reducible apply Iz Z X I | wp_step))
theorem CK (Z : nI K D) : PySem.W.KitX K (.ref a) (.ref D) (fun h => ∃ o, ni h a D o) where
  ty := fun _ _ _ ⟨o, I⟩ => I.type
  it := fun _ _ X _ => by
    obtain ⟨cd, hc⟩ := Option.isSome_iff_exists.mp Z.is
    unfold PySem.W.clsIn at hc
    split at hc
    · rename_i c' d' cd' sl' ho
      intro A' Q' E' s' k q
      unfold isType loadHead
      exact wpAny_bind (wpAny_loadPart (k _ _ (X _ _ ho)) (wpAny_pure q))
    · cases hc
  ne := fun h tp dd its n sl X htp => by
    obtain ⟨cd, hc⟩ := Option.isSome_iff_exists.mp Z.is
    refine Bool.eq_false_iff.mpr fun q => ?_
    have e : D = tp := Value.ref.inj (beq_iff_eq.mp q)
    subst e
    unfold PySem.W.clsIn at hc
    split at hc
    · rename_i c' d' cd' sl' ho
      have z := (X _ _ ho).symm.trans htp
      cases z
    · cases hc
  ca := fun {_ _ _ _ _ s} X ⟨o, I⟩ k => by obtain ⟨h, g, d, t, os⟩ := s; exact Ey Z X I k
theorem CL {M : Model} {B : Addr} {Q : Bool → Shared → Prop} (X : K.In h) (I : ni h a D o) (hs : PySem.W.subIn K (.ref D) (.ref B) = some true) (hb : PySem.W.subIn K (.ref B) (.type "BaseException") = some true)
    (hc : (PySem.W.clsIn K B).isSome = true) (ht : PySem.W.typeIn K (.ref B) = some (.type "type")) (hq : Q true ⟨h, g, d, t, os⟩) : wpAny M A (excMatches (.ref a) (.ref B)) Q E ⟨h, g, d, t, os⟩ := by
  have L0 := I.type (M := M)
  have L1 := PySem.W.looks_subIn (M := M) X hs
  have L2 := PySem.W.looks_subIn (M := M) X hb
  have L3 := PySem.W.looks_typeIn (M := M) X ht
  have f := tc_notTuple
  obtain ⟨cd, hcd⟩ := Option.isSome_iff_exists.mp hc
  unfold PySem.W.clsIn at hcd
  split at hcd
  · rename_i c' d' cd' sl' ho
    have hB := X _ _ ho
    unfold excMatches
    repeat (first | with_reducible refine L0.at ?_ | with_reducible refine L1.at ?_ | with_reducible refine L2.at ?_ | with_reducible refine L3.at ?_ | with_reducible refine wpAny_loadPart_at hB ?_ | wp_step)
    exact hq
  · cases hcd
end
end L2
set_option Elab.async false
set_option linter.all false
set_option maxRecDepth 100000
namespace L2
open PySem PySem.Spec PyProof.Rows
section
variable {P : Program} {w : World} {H : Hp} {h : Heap} {a : Addr} {o : HO}
theorem c7.obj (x : c7 P w H h a o) : ∃ ob, h.get? a = some ob := by
  induction o with
  | lst xs => obtain ⟨_, _, _, _, e⟩ := x; exact ⟨_, e⟩
  | tup xs => obtain ⟨_, _, _, ob, e, _⟩ := x; exact ⟨_, e⟩
  | dK kvs => obtain ⟨_, _, _, _, o, _, _, e, _⟩ := x; exact ⟨_, e⟩
  | dT kvs => obtain ⟨_, _, _, _, o, _, _, e, _⟩ := x; exact ⟨_, e⟩
  | set S n => obtain ⟨o, _, _, _, e, _⟩ := x; exact ⟨_, e⟩
  | ins C dx fs => obtain ⟨_, _, _, e, _⟩ := x; exact ⟨_, e⟩
  | own y => obtain ⟨_, e⟩ := x; exact ⟨_, e⟩
  | xd fs => obtain ⟨_, ⟨ob, _, _, e, _⟩, _⟩ := x; exact ⟨_, e⟩
  | rng lo hi => obtain ⟨_, _, _, e⟩ := x; exact ⟨_, e⟩
  | frz ob u ih => obtain ⟨e, _⟩ := x; exact ⟨_, e⟩
  | tbl ps => exact ⟨_, x⟩
  | met f y => exact ⟨_, x⟩
  | ext φ => obtain ⟨_, ⟨ob, e⟩, _⟩ := x; exact ⟨_, e⟩
end
structure Cov (X : Cx) (pins : List (Addr × Obj)) (H : Hp) (B : Heap) : Prop where
  trk : ∀ b u, H b = some u → ∃ o, B.get? b = some o
  old : ∀ b o, X.s₀.heap.get? b = some o → b ∉ frs X.stack → b ∉ X.ex → ∃ o, B.get? b = some o
  pin : ∀ p ∈ X.pn ++ pins, ∃ o, B.get? p.1 = some o
section
variable {X : Cx} {pins : List (Addr × Obj)} {σ : St} {H : Hp} {s : Shared} {B h' : Heap}
theorem Inv.flown (I : Inv X pins σ H s) (b1 : B.StaysIn s.heap) (b2 : B.StaysIn h') (sm : s.heap.UpToSlots h') (c : Cov X pins H B) (t' : Nat) : Inv X pins σ H { s with heap := h', toks := t' } := by
  have same : ∀ b o, (∃ u, B.get? b = some u) → s.heap.get? b = some o → h'.get? b = some o := fun b o ⟨u, e⟩ q => by
    have := b1 b u e
    rw [q] at this; cases this
    exact b2 b _ e
  have nst : ∀ b o, X.s₀.heap.get? b = some o → b ∉ X.fs → b ∉ frs X.stack := fun b o e hb hs => by
    rcases List.mem_cons.mp (I.stkSub b hs) with z | z
    · exact absurd z (Nat.ne_of_lt (Nat.lt_of_lt_of_le (Heap.lt_size e) I.ok.above))
    · exact hb z
  have fsl : ∀ b o, b ∈ X.fs → s.heap.get? b = some o → ∃ sl, h'.get? b = some { o with slots := sl } := fun b o hb e => by
    obtain ⟨_, o', ho', nf⟩ := I.funs.mem hb
    rw [e] at ho'; cases ho'
    exact sm b o e nf
  have cellK : ∀ c v, s.heap.IsCell c v → h'.IsCell c v := fun c v ⟨o, ho, hd⟩ => by
    obtain ⟨sl, q⟩ := sm c o ho (fun vs z => by rw [hd] at z; cases z)
    exact ⟨_, q, hd⟩
  refine ⟨I.ok, I.os, I.bare, ⟨fun b o e n hb hx => ?_, fun b o e n hb hx => ?_, I.base.free, fun b o e hx => ?_, I.base.tups, I.base.frzs, I.base.tbls⟩, ?_, fun x c e => ?_, I.free, I.freeC, fun p hp => ?_, fun b u e => ?_, I.len⟩
  · exact same b o (c.old b o e (nst b o e hb) hx) (I.base.keep b o e n hb hx)
  · obtain ⟨sl, e1⟩ := I.base.slot b o e n hb hx
    obtain ⟨sl', e2⟩ := fsl b _ hb e1
    exact ⟨sl', e2⟩
  · obtain ⟨o', e1⟩ := I.base.there b o e hx
    by_cases hb : b ∈ X.fs
    · obtain ⟨sl, e2⟩ := fsl b o' hb e1; exact ⟨_, e2⟩
    · exact ⟨o', same b o' (c.old b o e (nst b o e hb) hx) e1⟩
  · obtain ⟨m, hn, hl⟩ := I.loc
    refine ⟨m, sm.ns hn, fun i x v e1 e2 e3 => ?_⟩
    obtain ⟨u, r, l⟩ := hl i x v e1 e2 e3
    refine ⟨u, r, ?_⟩
    rcases l with l | ⟨k, c, e, z⟩
    · exact .inl l
    · exact .inr ⟨k, c, e, cellK c _ z⟩
  · obtain ⟨v, z⟩ := I.cell x c e
    exact ⟨v, cellK c v z⟩
  · obtain ⟨e, n, ne, nf, d⟩ := I.pin p hp
    exact ⟨same _ _ (c.pin p hp) e, n, ne, nf, d⟩
  · refine (I.hok b u e).stay (fun c' v hc q => same c' v ?_ q) (fun _ q => q) fun _ _ q => q
    rcases hc with z | z
    · rw [z]; exact c.trk b u e
    · exact c.trk c' _ z
def XF (X : Cx) (E : Addr → Hp → Prop) (e : Value) (s' : Shared) : Prop := ∃ pins σ H a C B t, e = .ref a ∧ Inv X pins σ H s' ∧ Heap.FlyingW B X.stack a (.ref C) (.ref t) s'.heap ∧ Cov X pins H B ∧ E C H
def XAt (X : Cx) (pins : List (Addr × Obj)) (σ : St) (H : Hp) (a C : Addr) (s' : Shared) : Prop :=
  (∃ s1 h' vs, Inv X pins σ H s1 ∧ Heap.MadeExcOf s1.heap h' a (.ref C) vs ∧ s' = { s1 with heap := h' }) ∨
  (∃ B t, Inv X pins σ H s' ∧ Heap.FlyingW B X.stack a (.ref C) (.ref t) s'.heap ∧ Cov X pins H B)
def XP (X : Cx) (E : Addr → Hp → Prop) (e : Value) (s' : Shared) : Prop := ∃ pins σ H a C, e = .ref a ∧ XAt X pins σ H a C s' ∧ E C H
def CX1 (P : Program) (w : World) : CXT := fun outer H s E e s' => ∃ a C B t H', e = .ref a ∧ s'.os = s.os ∧ AllBare s'.gens ∧ Un (frs outer) [] H H' s.heap s'.heap ∧ HOk P w H' s'.heap ∧
  Heap.FlyingW B outer a (.ref C) (.ref t) s'.heap ∧ (∀ b u, H' b = some u → ∃ o, B.get? b = some o) ∧ (∀ b o, s.heap.get? b = some o → b ∉ frs outer → ∃ o, B.get? b = some o) ∧ E (.ref C) none H'
theorem XF.xp {E : Addr → Hp → Prop} {e : Value} {s' : Shared} : XF X E e s' → XP X E e s' := fun ⟨pins, σ, H, a, C, B, t, he, I, fl, c, q⟩ => ⟨pins, σ, H, a, C, he, .inr ⟨B, t, I, fl, c⟩, q⟩
theorem IA {E : XK} {E' : Addr → Hp → Prop} {R : Value → Shared → Prop} (h : ∀ C H, E (.ref C) none H → E' C H) (hR : ∀ e s', XF X E' e s' → R e s') : nc (CX1 X.prog X.w) (X.wish R) E := by
  rintro pins σ H s e s' I ⟨a, C, B, t, H', he, os, bare, un, hok, fl, trk, old, q⟩
  have I0 := I.unwish
  have I' : Inv X pins σ H' s' := I0.call' (ch := []) os un hok bare (fun b z => absurd z (by simp))
  refine hR _ _ ⟨pins, σ, H', a, C, B, t, he, I', fl, ⟨trk, fun b o e hb hx => ?_, fun p hp => ?_⟩, h C H' q⟩
  · obtain ⟨o', e'⟩ := I0.base.there b o e hx
    exact old b o' e' hb
  · obtain ⟨e, n, ne, nf, _⟩ := I0.pin p hp
    exact old p.1 p.2 e fun z => (List.mem_cons.mp (I0.stkSub p.1 z)).elim ne nf
theorem CM (I : Inv X pins σ H s) : Cov X pins H (PySem.W.hideAll s.heap (frs X.stack)) where
  trk := fun b u e => by
    obtain ⟨o, q⟩ := (I.hok b u e).obj
    refine ⟨o, PySem.W.hideAll_get _ q fun z => ?_⟩
    rw [I.stkFree b z] at e; cases e
  old := fun b o e hb hx => by
    obtain ⟨o', e'⟩ := I.base.there b o e hx
    exact ⟨o', PySem.W.hideAll_get _ e' hb⟩
  pin := fun p hp => by
    obtain ⟨e, n, ne, nf, _⟩ := I.pin p hp
    exact ⟨_, PySem.W.hideAll_get _ e fun z => (List.mem_cons.mp (I.stkSub p.1 z)).elim ne nf⟩
end
theorem tI {P : Program} {w : World} {K : PySem.W.Frag} {mg : Str → Option Value} {base : Heap} {N : List Str} {qual : Str} {scope : Scope} {f : Addr} {cd : Value} {A : Around} {outer : List Env} {s : Shared} {H : Hp} {E : XK} {e : Value} {s' : Shared}
    (h : XP (mF (CX1 P w) P w K mg base N qual scope f cd A outer s H E) (fun C H' => E (.ref C) none H') e s') : (mF (CX1 P w) P w K mg base N qual scope f cd A outer s H E).xe e s' := by
  obtain ⟨pins, σ, H', a, C, rfl, hx, q⟩ := h
  have fin : ∀ {s1 : Shared} {B : Heap} {h' : Heap} {t : Addr}, Inv (mF (CX1 P w) P w K mg base N qual scope f cd A outer s H E) pins σ H' s1 → B.StaysIn s1.heap → s1.heap.UpToSlots h' →
      Cov (mF (CX1 P w) P w K mg base N qual scope f cd A outer s H E) pins H' B → Heap.FlyingW B outer a (.ref C) (.ref t) h' → CX1 P w outer H s E (.ref a) { s1 with heap := h' } := by
    intro s1 B h' t I b1 sm c fl
    have J := I.flown (h' := h') b1 fl.1 sm c s1.toks
    refine ⟨a, C, B, t, H', rfl, J.os, J.bare, J.base, J.hok, fl, c.trk, fun b o e hb => c.old b o e (fun z => ?_) (fun z => absurd (show b ∈ ([] : List Addr) from z) (by simp)), q⟩
    rcases List.mem_cons.mp (I.stkSub b z) with y | y
    · exact absurd y (Nat.ne_of_lt (Nat.lt_of_lt_of_le (Heap.lt_size e) I.ok.above))
    · exact hb y
  rcases hx with ⟨s1, h1, vs, I, mk, rfl⟩ | ⟨B, t, I, fl, c⟩
  · have hin : ∀ env ∈ (envOfC qual scope s.heap.objs.size f cd :: outer), ∀ b, env.frame = some b → b ∈ frs (envOfC qual scope s.heap.objs.size f cd :: outer) := fun env he b hb => List.mem_filterMap.mpr ⟨env, he, hb⟩
    refine wpAny_leaves_madeW (base := PySem.W.hideAll s1.heap (frs (envOfC qual scope s.heap.objs.size f cd :: outer))) (I.ok.frames) rfl (fun b o q => PySem.W.of_hideAll _ q) (PySem.W.funFrames_hide I.stack hin) mk fun h' t x1 x2 x3 x4 => ?_
    exact fin (s1 := s1) (h' := h') (t := t) I (fun b o q => PySem.W.of_hideAll _ q) ((Heap.UpToSlots.of_keeps mk.keeps).trans x4) (CM I) x1
  · exact wpAny_leaves_onW I.ok.frames rfl fl fun h' x1 x2 => fin I fl.1 x2 c x1
end L2
set_option Elab.async false
set_option linter.all false
set_option maxRecDepth 100000
namespace L2
open PySem PySem.Spec PyProof.Rows
section
variable {X : Cx} {E : Addr → Hp → Prop} {x : Str} {C : Addr} {bm : List Value} {B newId initId : String} {np cpos pos : Pos} {e₀ : Expr} {rest : List Expr} {ta : TA}
def GT (C : Addr) (E : Addr → Hp → Prop) (ta : TA) : TS := fun _ σ H => ta σ H fun vs H1 => vs.length ≤ sizeLine ∧ E C H1
theorem CN (O : OwnCls x C bm newId X.mg X.base) (FB : ExcBaseFacts B newId initId bm) (hc : X.calm = true) (hg : Gl X x) (ha : PA (X.wish (XP X E)) (e₀ :: rest) ta) (hdb : (x == ("__debug__" : Str)) = false := by decide)
    (he : starEach (e₀ :: rest) X.env = (false, eval e₀ X.env) :: starEach rest X.env := by rfl) (hpl : (backTo cpos (starEach rest X.env)).any (·.1) = false := by rfl) :
    PS (X.wish (XP X E)) (.Raise (some (.Call (.Name x np) (e₀ :: rest) [] cpos)) none pos) (GT C E ta) := by
  intro pins s σ H D I h
  obtain ⟨tl, N, nm, q, bs, hdct, sn, sub, ab, col, dd, k0, k1, k2, k3, k5, mN, hC, hN, hni, T⟩ := O.obj
  have hp2 : (backTo cpos (starEach (e₀ :: rest) X.env)).any (·.1) = false := by
    rw [he]; show (false || (backTo cpos (starEach rest X.env)).any (·.1)) = false; rw [hpl]; rfl
  refine wpAny_Raise_call_subT (C := C) (nm := nm) (q := q) (N := N) (bs := bs) (bm := tl) (hdct := hdct) (sn := sn) (sub := sub) (ab := ab) (col := col) (dd := dd) (k0 := k0) (k1 := k1) (k2 := k2) (k3 := k3) (k5 := k5) (mN := mN)
    FB (T.hasType FB.hasBase) (I.ok.hd hc) hp2 hni (sG I hg O.bound ⟨rfl, ?_⟩ hdb)
  have h2 := ha cpos pins s σ H _ I h
  have he' : starEach (e₀ :: rest) (X.wish (XP X E)).env = (false, eval e₀ X.env) :: starEach rest X.env := he
  rw [he'] at h2 ⊢
  exact Calls.evalArgs_plain (wpAny_mono h2 (fun us s2 ⟨vs, H1, I1, r, q1⟩ => ⟨rfl, by rw [← r.length]; exact q1.1, I1.bk _ _ hC, hN.keeps I1.bk, T.keeps I1.bk, fun h' e mk => ⟨pins, σ, H1, e, C, rfl, .inl ⟨s2, h', us, I1.unwish, mk, rfl⟩, q1.2⟩⟩) fun _ _ z => z)
end
section
variable {P : Program} {w : World} {K : PySem.W.Frag} {mg : Str → Option Value} {base : Heap}
end
section
variable {X : Cx} {pins : List (Addr × Obj)} {σ : St} {H : Hp} {s : Shared}
theorem Inv.exc {B : Heap} {a C t : Addr} (I : Inv X pins σ H s) (fl : Heap.FlyingW B X.stack a (.ref C) (.ref t) s.heap) (c : Cov X pins H B) : Inv X pins σ (upd H a (jL a C)) s := by
  obtain ⟨oe, vs, hoe, hcl, hdt, _⟩ := fl.first
  have hB := fl.2.1
  have hn : H a = none := by
    cases e : H a with
    | none => rfl
    | some u => obtain ⟨o, q⟩ := c.trk a u e; rw [hB] at q; cases q
  have nfr : a ∉ frs X.stack := fun z => by
    obtain ⟨_, o, ho, nf⟩ := I.stack.mem z
    rw [hoe] at ho; cases ho; exact nf vs hdt
  have nold : ∀ b o, X.s₀.heap.get? b = some o → b ∉ X.ex → b ≠ a := fun b o e hx z => by
    subst z
    obtain ⟨o', q⟩ := c.old _ o e nfr hx
    rw [hB] at q; cases q
  have keepH : ∀ b u, H b = some u → upd H a (jL a C) b = some u := fun b u e => by rw [aA (a8 e hn)]; exact e
  refine ⟨I.ok, I.os, I.bare, ⟨I.base.keep, I.base.slot, fun b o e n hx => ?_, I.base.there, fun b xs e => keepH b _ (I.base.tups b xs e), fun b o u e => keepH b _ (I.base.frzs b o u e), fun b ps e => ?_⟩, I.loc, I.cell, ?_, fun x c' e => ?_, fun p hp => ?_, fun b u e => ?_, I.len⟩
  · rw [aA (nold b o e hx)]; exact I.base.free b o e n hx
  · obtain ⟨m, q⟩ := I.base.tbls b ps e
    exact ⟨m, keepH b _ q⟩
  · rw [aA]
    · exact I.free
    · intro z
      obtain ⟨m, ⟨o, es, ep, ho, hd, _⟩, _⟩ := I.loc
      rw [z, hoe] at ho; cases ho; rw [hdt] at hd; cases hd
  · rw [aA]
    · exact I.freeC x c' e
    · intro z
      obtain ⟨v, o, ho, hd⟩ := I.cell x c' e
      rw [z, hoe] at ho; cases ho; rw [hdt] at hd; cases hd
  · obtain ⟨e, n, ne, nf, d⟩ := I.pin p hp
    refine ⟨e, ?_, ne, nf, d⟩
    rw [aA]
    · exact n
    · intro z
      obtain ⟨o, q⟩ := c.pin p hp
      rw [z, hB] at q; cases q
  · by_cases hb : b = a
    · subst hb
      rw [aT] at e; cases e
      exact ⟨⟨oe, hoe, hcl⟩, ⟨oe, hoe⟩, fun h1 h2 ⟨o, ho, hc⟩ k => ⟨o, k o ho, hc⟩⟩
    · rw [aA hb] at e
      exact (I.hok b u e).stay (fun _ _ _ q => q) (fun b' q => keepH b' _ q) fun b' xs q => keepH b' _ q
theorem Inv.goes {M : Model} {A : Around} {E : Value → Shared → Prop} {j : Nat} {n : Str} {pos : Pos} {Q : Unit → Shared → Prop} (I : Inv X pins σ H s) (hN : X.N.Nodup) (hj : X.N[j]? = some n) (hl : X.env.kindOf n = some .local)
    (h : ∀ s', Inv X pins (σ.set j none) H s' → Q () s') : wpAny M A (do bindName X.env n .none; unbindBehindTheSuite X.env n pos) Q E s := by
  obtain ⟨m, hn, hlo⟩ := id I.loc
  have hcls : (X.env.scope.kind == .class || (X.env.scope.kind == .module && X.env.locals != X.env.globals)) = false := by rw [I.ok.kind]; rfl
  obtain ⟨oL, _, _, hoL, _⟩ := id hn
  refine wpAny_nameGoes_keeps hl hn hcls fun h' v hn' hs => ?_
  have old : ∀ b o, X.s₀.heap.get? b = some o → b ≠ X.env.locals := fun b o e => Nat.ne_of_lt (Nat.lt_of_lt_of_le (Heap.lt_size e) I.ok.above)
  refine h _ ⟨I.ok, I.os, I.bare, ⟨fun b o e n hb hx => (hs.2 b (old b o e)).trans (I.base.keep b o e n hb hx), fun b o e n hb hx => ?_, I.base.free, fun b o e hx => ?_, I.base.tups, I.base.frzs, I.base.tbls⟩, ⟨_, hn', fun i y v' e1 e2 e3 => ?_⟩, fun y c e => ?_, I.free, I.freeC, fun p hp => ?_, fun b u e => ?_, by simpa using I.len⟩
  · obtain ⟨sl, e1⟩ := I.base.slot b o e n hb hx
    exact ⟨sl, (hs.2 b (old b o e)).trans e1⟩
  · obtain ⟨o', e1⟩ := I.base.there b o e hx
    exact ⟨o', (hs.2 b (old b o e)).trans e1⟩
  · by_cases hi : i = j
    · subst hi
      by_cases hlt : i < σ.length
      · rw [List.getElem?_set_self hlt] at e2; cases e2
      · rw [List.getElem?_eq_none (by simpa using hlt)] at e2; cases e2
    · rw [List.getElem?_set_ne (Ne.symm hi)] at e2
      obtain ⟨u', r', q⟩ := hlo i y v' e1 e2 e3
      refine ⟨u', r', ?_⟩
      rcases q with ⟨k, e⟩ | ⟨k, c, e, z⟩
      · refine .inl ⟨k, ?_⟩
        have : y ≠ n := fun e => hi (mY hN e1 (e ▸ hj))
        simp [this, e]
      · exact .inr ⟨k, c, e, z.sameBut hs (I.cne y c e)⟩
  · obtain ⟨w', z⟩ := I.cell y c e
    exact ⟨w', z.sameBut hs (I.cne y c e)⟩
  · obtain ⟨e, n, ne, nf, d⟩ := I.pin p hp
    exact ⟨(hs.2 p.1 ne).trans e, n, ne, nf, d⟩
  · refine (I.hok b u e).stay (fun c w' hc q => (hs.2 c ?_).trans q) (fun _ q => q) fun _ _ q => q
    rintro rfl
    rcases hc with z | z
    · rw [← z, I.free] at e; cases e
    · rw [I.free] at z; cases z
abbrev Cx.sui (X : Cx) (a : Addr) : Cx := { X with A := X.A.mark (some (.ref a)), calm := false, xe := fun _ _ => False }
theorem Inv.marked (I : Inv X pins σ H s) (a : Addr) : Inv (X.sui a) pins σ H s :=
  ⟨⟨I.ok.mod, I.ok.kind, I.ok.glob, I.ok.blt, I.ok.above, I.ok.inj, I.ok.has, I.ok.cab, (fun z => by cases z), I.ok.frames, I.ok.stk, I.ok.exf, I.ok.bs, I.ok.bsz, I.ok.noex, I.ok.exfs, I.ok.funs, I.ok.frf⟩, I.os, I.bare, I.base, I.loc, I.cell, I.free, I.freeC, I.pin, I.hok, I.len⟩
theorem Inv.unmark (hh : X.calm = true → X.A.handled = none) {a : Addr} (I : Inv (X.sui a) pins σ H s) : Inv X pins σ H s :=
  ⟨⟨I.ok.mod, I.ok.kind, I.ok.glob, I.ok.blt, I.ok.above, I.ok.inj, I.ok.has, I.ok.cab, hh, I.ok.frames, I.ok.stk, I.ok.exf, I.ok.bs, I.ok.bsz, I.ok.noex, I.ok.exfs, I.ok.funs, I.ok.frf⟩, I.os, I.bare, I.base, I.loc, I.cell, I.free, I.freeC, I.pin, I.hok, I.len⟩
abbrev Cx.pin (X : Cx) (q : List (Addr × Obj)) : Cx := { X with pn := q }
theorem Inv.pinq (I : Inv X pins σ H s) : Inv (X.pin (X.pn ++ pins)) [] σ H s :=
  ⟨⟨I.ok.mod, I.ok.kind, I.ok.glob, I.ok.blt, I.ok.above, I.ok.inj, I.ok.has, I.ok.cab, I.ok.hd, I.ok.frames, I.ok.stk, I.ok.exf, I.ok.bs, I.ok.bsz, I.ok.noex, I.ok.exfs, I.ok.funs, I.ok.frf⟩, I.os, I.bare, I.base, I.loc, I.cell, I.free, I.freeC, fun p hp => I.pin p (by simpa using hp), I.hok, I.len⟩
theorem Inv.unpin {pins' : List (Addr × Obj)} (I : Inv (X.pin (X.pn ++ pins)) pins' σ H s) : Inv X pins σ H s :=
  ⟨⟨I.ok.mod, I.ok.kind, I.ok.glob, I.ok.blt, I.ok.above, I.ok.inj, I.ok.has, I.ok.cab, I.ok.hd, I.ok.frames, I.ok.stk, I.ok.exf, I.ok.bs, I.ok.bsz, I.ok.noex, I.ok.exfs, I.ok.funs, I.ok.frf⟩, I.os, I.bare, I.base, I.loc, I.cell, I.free, I.freeC, fun p hp => I.pin p (List.mem_append_left _ hp), I.hok, I.len⟩
end
section
variable {X : Cx} {body : List Stmt} {x n c : Str} {M : Addr} {i j : Nat} {np cp vp ap hp pos : Pos} {tb : (Addr → Hp → Prop) → TS}
end
end L2
namespace Fm
@[simp] def tJ (c : String) : SF := fun σ h => .exc (.exn c []) σ h
@[simp] def iZ (t : TF) (a b : SF) : SF := fun σ h => match t σ h with | .ok c h' => if c then a σ h' else b σ h' | _ => .bad
end Fm
set_option Elab.async false
set_option linter.all false
set_option maxRecDepth 100000
namespace Fm
open PySem PySem.Spec L2 PyProof.Rows
section
variable (K : PySem.W.Frag) (mg : Str → Option Value)
def iG (ρ : List Addr) (H : Hp) (o : Out) (E : Addr → Hp → Prop) (En : m4) : Prop := match o with
  | .exc x _ hd => ∃ c l C, x = .exn c l ∧ mg (Str.ofString c) = some (.ref C) ∧ ∀ H' ρ', Ext ρ H ρ' H' → RH K ρ' H' hd → E C H'
  | .nx σ hd => bN K ρ H (.nx σ hd) En
  | .rt d hd => bN K ρ H (.rt d hd) En
  | .bk σ hd => bN K ρ H (.bk σ hd) En
  | .ct σ hd => bN K ρ H (.ct σ hd) En
  | .bad => False
def u5 (E : Addr → Hp → Prop) (f : SF) : TS := fun En σ H => ∃ ρ σd hd, RS K ρ H σd hd σ ∧ iG K mg ρ H (f σd hd) E En
def spX (F : Fn) (np : Nat) : Sp := fun vs H _ E => ∃ ρ hd ds, RH K ρ H hd ∧ RDs K ρ H ds vs ∧ ds.length = np ∧
  ∃ c l hd' C, F ds hd = .exc (.exn c l) hd' ∧ mg (Str.ofString c) = some (.ref C) ∧ ∀ H' ρ', Ext ρ H ρ' H' → RH K ρ' H' hd' → E (.ref C) none H'
end
section
variable {K : PySem.W.Frag} {mg : Str → Option Value} {ρ ρ' : List Addr} {H H' : Hp} {E : Addr → Hp → Prop} {En : m4}
theorem iG.ext {o : Out} (e : Ext ρ H ρ' H') (p : iG K mg ρ H o E En) : iG K mg ρ' H' o E En := by
  cases o with
  | exc x σ hd => obtain ⟨c, l, C, h1, h2, h3⟩ := p; exact ⟨c, l, C, h1, h2, fun H2 ρ2 e2 r => h3 H2 ρ2 (e.trans e2) r⟩
  | nx σ hd => exact bN.ext (o := .nx σ hd) e p
  | rt d hd => exact bN.ext (o := .rt d hd) e p
  | bk σ hd => exact bN.ext (o := .bk σ hd) e p
  | ct σ hd => exact bN.ext (o := .ct σ hd) e p
  | bad => exact p
theorem Ext.sm {H2 : Hp} (e : Ext ρ H ρ' H') (s : gc H' H2) : Ext ρ H ρ' H2 := ⟨e.pre, e.new, fun q u h n => s q u (e.frame q u h n)⟩
end
abbrev Wi := (Addr → Hp → Prop) → Value → Shared → Prop
def MX (X : Cx) (R : Wi) (s : Stmt) (f : SF) : Prop := ∀ E, PS (X.wish (R E)) s (u5 X.K X.mg E f)
def MXs (X : Cx) (R : Wi) (s : List Stmt) (f : SF) : Prop := ∀ E, PSs (X.wish (R E)) s (u5 X.K X.mg E f)
structure JA (P : Program) (w : World) (K : PySem.W.Frag) (mg : Str → Option Value) (base : Heap) (x : Str) (k np : Nat) (F : Fn) : Prop where
  ex : ∃ f fd ps, mg x = some (.ref f) ∧ PySem.W.keepIn K (.ref f) = true ∧ iO K fd ps [] ∧ ce P w K mg base (CX1 P w) k f fd ps (spX K mg F np)
section
variable {X : Cx} {R : Wi} {pos p : Pos}
theorem CO {n : String} {C : Addr} {bm : List Value} {B newId initId : String} {np cpos cp : Pos} {txt : Str} {j} (O : OwnCls (Str.ofString n) C bm newId X.mg X.base) (FB : ExcBaseFacts B newId initId bm) (hc : X.calm = true) (hg : Gl X (Str.ofString n))
    (hdb : (Str.ofString n == ("__debug__" : Str)) = false := by decide) : MX X (XP X) (.Raise (some (.Call (.Name (Str.ofString n) np) [.Constant (.str txt) j cp] [] cpos)) none pos) (tJ n) := fun E => by
  refine PS.imp (CN O FB hc hg (bD wD c9) hdb) fun En σ H ⟨ρ, σd, hd, rs, q⟩ => ?_
  obtain ⟨c, l, C', h1, h2, h3⟩ := q
  cases h1
  rw [O.bound] at h2; cases h2
  exact ⟨by show 1 ≤ sizeLine; decide, h3 H ρ Ext.refl rs.hp⟩
end
section
variable {P : Program} {w : World} {K : PySem.W.Frag} {mg : Str → Option Value} {base : Heap}
end
end Fm
set_option Elab.async false
set_option linter.all false
set_option maxRecDepth 100000
namespace Fm
open PySem PySem.Spec L2 PyProof.Rows
def mI : V → Value | .ref a => .ref a | .ty n => .type n | _ => .none
def rK : V → Bool | .ref _ => true | .ty _ => true | _ => false
theorem zu {v : V} {u : Value} (h : rK v = true) (r : bB v u) : u = mI v := by
  cases v <;> first | exact r | cases h
theorem u6 : ∀ {vs : List V} {us : List Value}, vs.all rK = true → aV vs us → us = vs.map mI
  | [], _, _, .nil => rfl
  | v :: vs, _, h, .cons r t => by
    rw [List.all_cons, Bool.and_eq_true] at h
    rw [List.map_cons, ← zu h.1 r, ← u6 h.2 t]
section
variable {X : Cx} {pos p : Pos}
def Jq (K : PySem.W.Frag) : List V → Hp → VK → Prop := fun xs H Q => ∃ a C v b, xs = [.ref a, v] ∧ rK v = true ∧ H a = some (jL a C) ∧ nI K C ∧ PySem.W.kitOne K (.ref C) (mI v) = some b ∧ Q (.bl b) H
theorem CP : eR X (.builtin "isinstance") (Jq X.K) := by
  rintro pins s σ H xs us Q I r ⟨a, C, v, b, rfl, hc, ha, Z, e, q⟩
  obtain ⟨u, u2, rfl, ru, ru2⟩ := aV.two r
  cases (show u = Value.ref a from ru)
  rw [zu hc ru2]
  have p0 := (I.hok a _ ha).1
  exact PySem.W.kia_one (CK Z) I.kIn p0 e (by intro z; cases z) fun tk => ⟨.bl b, H, I.tok tk, rfl, q⟩
def Jr (K : PySem.W.Frag) : List V → Hp → VK → Prop := fun xs H Q => ∃ a C tp vs b, xs = [.ref a, .ref tp] ∧ vs.all rK = true ∧ H a = some (jL a C) ∧ H tp = some (.tup vs) ∧ nI K C ∧ PySem.W.kitAny K (.ref C) (vs.map mI) = some b ∧ Q (.bl b) H
theorem CQ : eR X (.builtin "isinstance") (Jr X.K) := by
  rintro pins s σ H xs us Q I r ⟨a, C, tp, vs, b, rfl, hc, ha, ht, Z, e, q⟩
  obtain ⟨u, u2, rfl, ru, ru2⟩ := aV.two r
  cases (show u = Value.ref a from ru)
  cases (show u2 = Value.ref tp from ru2)
  have p0 := (I.hok a _ ha).1
  obtain ⟨_, its, rv, o, ho, hcl, n, hd⟩ := I.hok tp _ ht
  have hit := u6 hc rv
  subst hit
  obtain ⟨cl, dd, dt, sl⟩ := o
  cases hcl
  cases hd
  exact PySem.W.kia_tup (CK Z) I.kIn p0 ho e (by intro z; cases z) fun tk => ⟨.bl b, H, I.tok tk, rfl, q⟩
theorem i0 {x : Str} {np : Pos} {a : Addr} {es : List Expr} {vs : List V} (hg : Gl X x) (hm : X.mg x = some (.ref a)) (h : PA X es fun _ H Q => Q vs H) (hd : (x == ("__debug__" : Str)) = false := by decide)
    (hs : starEach (.Name x np :: es) X.env = (false, eval (.Name x np) X.env) :: starEach es X.env := by rfl) : PA X (.Name x np :: es) fun _ H Q => Q (.ref a :: vs) H := bD (sH (v := .ref a) hg hm rfl hd) h hs
theorem Ez : PA X [] fun _ H Q => Q [] H := c9
end
end Fm
set_option Elab.async false
set_option linter.all false
set_option maxRecDepth 100000
namespace Fm
open PySem PySem.Spec L2 PyProof.Rows
abbrev Js : List Value := [.type "ValueError", .type "Exception", .type "BaseException", .type "object"]
theorem GU {K : PySem.W.Frag} {h : Heap} {mg : Str → Option Value} {x : Str} {C : Addr} {bm : List Value} {id : String} (X : K.In h) (e : mg x = some (.ref C)) (q : PySem.W.excIn K C bm id = true) : OwnCls x C bm id mg h := by
  refine ⟨e, ?_⟩
  unfold PySem.W.excIn at q; split at q
  · rename_i dd cd sl ho; split at q
    · rename_i C' bm' k0 k1 k2 k3 n k5 hm hs
      simp only [Bool.and_eq_true, beq_iff_eq, Bool.not_eq_true'] at q; obtain ⟨⟨⟨⟨⟨rfl, rfl⟩, hdel⟩, ht⟩, hok⟩, hni⟩ := q
      obtain ⟨nm, bs, mro, ns, qn, hd, sn, sub, ab, col, del⟩ := cd
      dsimp only at hm hdel hok hni; subst hm hdel
      have hsl : sl = #[k0, k1, k2, k3, some (.builtin n), k5] := by obtain ⟨l⟩ := sl; simp only at hs; rw [hs]
      subst hsl
      exact ⟨bm', ns, nm, qn, bs, hd, sn, sub, ab, col, dd, k0, k1, k2, k3, k5, _, X _ _ ho, .of_isNs (PySem.W.isNs_of_in X hok), PySem.W.nsMap_none_of_in X hok hni, PySem.W.tail_of_in X ht⟩
    · cases q
  · cases q
end Fm
namespace Fm
def noX {α : Type} : Res α → Res α
  | .exc _ _ => .bad
  | r => r
def fPl {α : Type} (f : Sd → Hd → Res α) : Sd → Hd → Res α := fun σ h => noX (f σ h)
def sPl (f : SF) : SF := fun σ h => match f σ h with | .exc _ _ _ => .bad | o => o
end Fm
set_option Elab.async false
set_option linter.all false
set_option maxRecDepth 100000
namespace L2
open PySem PySem.Spec PyProof.Rows
theorem IB {X : Cx} {E : XK} {E' : Addr → Hp → Prop} (h : ∀ C H, E (.ref C) none H → E' C H) (hR : ∀ e s', XF X E' e s' → X.xe e s') : nc (CX1 X.prog X.w) X E := by
  intro pins σ H s e s' I q
  have := IA (X := X) (R := X.xe) h hR pins σ H s e s' (I.wish _) q
  exact this
end L2
namespace Fm
open PySem PySem.Spec L2 PyProof.Rows
section
variable (K : PySem.W.Frag) (mg : Str → Option Value)
def XC (ρ : List Addr) (H : Hp) (E : Addr → Hp → Prop) (x : D) (hd : Hd) : Prop := ∃ c l C, x = .exn c l ∧ mg (Str.ofString c) = some (.ref C) ∧ ∀ H' ρ', Ext ρ H ρ' H' → RH K ρ' H' hd → E C H'
def eS {α β : Type} (R : VR α β) (ρ : List Addr) (H : Hp) (σd : Sd) (σ : L2.St) (r : Res α) (E : Addr → Hp → Prop) (Q : β → Hp → Prop) : Prop := match r with
  | .ok a hd' => ∀ b H' ρ', Ext ρ H ρ' H' → RS K ρ' H' σd hd' σ → R ρ' H' a b → Q b H'
  | .exc x hd' => XC K mg ρ H E x hd'
  | .bad => False
def FG {α β : Type} (R : VR α β) (E : Addr → Hp → Prop) (f : Sd → Hd → Res α) : L2.St → Hp → (β → Hp → Prop) → Prop := fun σ H Q => ∃ ρ σd hd, RS K ρ H σd hd σ ∧ eS K mg R ρ H σd σ (f σd hd) E Q
def spY (F : Fn) (np : Nat) : Sp := fun vs H Q E => ∃ ρ hd ds, RH K ρ H hd ∧ RDs K ρ H ds vs ∧ ds.length = np ∧ match F ds hd with
  | .ok d hd' => ∀ v H' ρ', Ext ρ H ρ' H' → RH K ρ' H' hd' → RD K ρ' H' d v → Q v H'
  | .exc x hd' => XC K mg ρ H (fun C H' => E (.ref C) none H') x hd'
  | .bad => False
end
section
variable {K : PySem.W.Frag} {mg : Str → Option Value} {ρ ρ' : List Addr} {H H' : Hp} {E : Addr → Hp → Prop} {σd : Sd} {σ : L2.St} {hd : Hd} {α β α' β' : Type} {R : VR α β} {R' : VR α' β'}
theorem XC.ext {x : D} (e : Ext ρ H ρ' H') (p : XC K mg ρ H E x hd) : XC K mg ρ' H' E x hd := by
  obtain ⟨c, l, C, h1, h2, h3⟩ := p
  exact ⟨c, l, C, h1, h2, fun H2 ρ2 e2 r => h3 H2 ρ2 (e.trans e2) r⟩
theorem eS.ext {r : Res α} {Q : β → Hp → Prop} (e : Ext ρ H ρ' H') (h : eS K mg R ρ H σd σ r E Q) : eS K mg R ρ' H' σd σ r E Q := by
  cases r with
  | ok a h' => exact fun b H2 ρ2 e2 s q => h b H2 ρ2 (e.trans e2) s q
  | exc x h' => exact XC.ext e h
  | bad => exact h
theorem eS.imp {r : Res α} {Q Q' : β → Hp → Prop} (h : eS K mg R ρ H σd σ r E Q) (i : ∀ b H', Q b H' → Q' b H') : eS K mg R ρ H σd σ r E Q' := by
  cases r with
  | ok a h' => exact fun b H' ρ' e s q => i b H' (h b H' ρ' e s q)
  | exc x h' => exact h
  | bad => exact h
theorem eS.bind {r : Res α} {k : α → Hd → Res α'} {Q : β' → Hp → Prop} (h : eS K mg R' ρ H σd σ (r.bind k) E Q) :
    eS K mg R ρ H σd σ r E (fun b H' => ∃ ρ' a hd', Ext ρ H ρ' H' ∧ RS K ρ' H' σd hd' σ ∧ R ρ' H' a b ∧ eS K mg R' ρ' H' σd σ (k a hd') E Q) := by
  cases r with
  | ok a h' => exact fun b H' ρ' e s q => ⟨ρ', a, h', e, s, q, eS.ext e h⟩
  | exc x h' => exact h
  | bad => exact h
theorem iG.outE {r : Res D} {k : D → Hd → Out} {En : m4} (p : iG K mg ρ H (outE r σd k) E En) :
    eS K mg (rD K) ρ H σd σ r E (fun v H' => ∃ ρ' d hd', Ext ρ H ρ' H' ∧ RS K ρ' H' σd hd' σ ∧ RD K ρ' H' d v ∧ iG K mg ρ' H' (k d hd') E En) := by
  cases r with
  | ok d h' => exact fun b H' ρ' ex rs q => ⟨ρ', d, h', ex, rs, q, iG.ext ex p⟩
  | exc x h' => exact p
  | bad => exact p
theorem eS.of_pl {r : Res α} {Q : β → Hp → Prop} (p : eS K mg R ρ H σd σ (noX r) E Q) : bo K R ρ H σd σ r Q := by
  cases r with
  | ok a h' => exact p
  | exc x h' => exact p
  | bad => exact p
end
def NE (X : Cx) (E : Addr → Hp → Prop) (e : Expr) (f : EF) : Prop := PE X e (FG X.K X.mg (rD X.K) E f)
def NA (X : Cx) (E : Addr → Hp → Prop) (es : List Expr) (f : LF) : Prop := PA X es (FG X.K X.mg (rDs X.K) E f)
def NS (X : Cx) (E : Addr → Hp → Prop) (s : Stmt) (f : SF) : Prop := PS X s (u5 X.K X.mg E f)
def NSs (X : Cx) (E : Addr → Hp → Prop) (s : List Stmt) (f : SF) : Prop := PSs X s (u5 X.K X.mg E f)
structure i3 (P : Program) (w : World) (K : PySem.W.Frag) (mg : Str → Option Value) (base : Heap) (x : Str) (k np : Nat) (F : Fn) : Prop where
  ex : ∃ f fd ps, mg x = some (.ref f) ∧ PySem.W.keepIn K (.ref f) = true ∧ iO K fd ps [] ∧ ce P w K mg base (CX1 P w) k f fd ps (spY K mg F np)
section
variable {X : Cx} {E : Addr → Hp → Prop} {pos p : Pos}
theorem Fv {e : Expr} {f : EF} (h : ME X e f) : NE X E e (fPl f) := PE.imp h fun σ H Q ⟨ρ, σd, hd, rs, q⟩ => ⟨ρ, σd, hd, rs, q.of_pl⟩
theorem rL {es : List Expr} {f : LF} (h : MA X es f) : NA X E es (fPl f) := PA.imp h fun σ H Q ⟨ρ, σd, hd, rs, q⟩ => ⟨ρ, σd, hd, rs, q.of_pl⟩
theorem jg {x : Str} {k np : Nat} {F : Fn} {e : Expr} {es : List Expr} {r : LF} (hd : i3 X.prog X.w X.K X.mg X.base x k np F) (hr : fZ k X.A) (hg : Gl X x) (ha : NA X E (e :: es) r) (hR : ∀ v s', XF X E v s' → X.xe v s')
    (hnp : ∀ ds h, F ds h ≠ .bad → ds.length = np) (hdb : (x == ("__debug__" : Str)) = false := by decide) (he : starEach (e :: es) X.env = (false, eval e X.env) :: starEach es X.env := by rfl) (hpl : (backTo pos (starEach es X.env)).any (·.1) = false := by rfl) :
    NE X E (.Call (.Name x p) (e :: es) [] pos) (au F r) := by
  obtain ⟨f, fd, ps, h1, h2, h3, h4⟩ := hd.ex
  refine PE.imp (y7 (E := fun v _ H => ∃ C, v = .ref C ∧ E C H) h4 hr hg h1 h2 h3 .nil (IB (E' := E) (fun C H ⟨C', e, q⟩ => by cases e; exact q) hR) ha hdb he hpl) fun σ H Q ⟨ρ, σd, hd, rs, pp⟩ => ⟨ρ, σd, hd, rs, (eS.bind (R := rDs X.K) pp).imp fun vs H1 ⟨ρ1, ds, hd1, e1, rs1, rv, p1⟩ => ?_⟩
  rw [List.append_nil]
  refine ⟨ρ1, hd1, ds, rs1.hp, rv, ?_, ?_⟩
  · refine hnp ds hd1 fun z => ?_
    rw [z] at p1; exact p1
  · cases c : F ds hd1 with
    | bad => rw [c] at p1; exact p1
    | exc z h' =>
      rw [c] at p1
      obtain ⟨cn, l, C, q1, q2, q3⟩ := p1
      exact ⟨cn, l, C, q1, q2, fun H2 ρ2 e2 r2 => ⟨C, rfl, q3 H2 ρ2 e2 r2⟩⟩
    | ok d hd2 =>
      rw [c] at p1
      exact fun v H' ρ' ex rh rd => p1 v H' ρ' ex (rs1.ext ex rh) rd
theorem jh {np n : Nat} {b : SF} : ∀ ds h, bE np n b ds h ≠ .bad → ds.length = np := by
  intro ds h e
  unfold bE at e
  split at e
  · assumption
  · exact absurd rfl e
theorem CS {s : Stmt} {f : SF} (h : MS X s f) : NS X E s (sPl f) := PS.imp h fun En σ H ⟨ρ, σd, hd, rs, q⟩ => ⟨ρ, σd, hd, rs, by
  unfold sPl at q
  cases e : f σd hd <;> rw [e] at q <;> exact q⟩
theorem EA : NSs X E [] bn := PSs.imp sI fun En σ H ⟨ρ, σd, hd, rs, p⟩ => p σ H ρ Ext.refl rs
theorem eJ {st : Stmt} {a : SF} (h : NS X E st a) : NSs X E [st] a := sJ h
theorem nJ {st : Stmt} {rest : List Stmt} {a b : SF} (h1 : NS X E st a) (h2 : NSs X E rest b) : NSs X E (st :: rest) (aE a b) := by
  refine PSs.imp (uK h1 h2) fun En σ H ⟨ρ, σd, hd, rs, q⟩ => ⟨ρ, σd, hd, rs, ?_⟩
  unfold aE at q
  cases e : a σd hd with
  | nx σ1 h1 => rw [e] at q; exact fun σ' H' ρ' ex rs' => ⟨ρ', σ1, h1, rs', iG.ext ex q⟩
  | rt d h1 => rw [e] at q; exact q
  | bk σ1 h1 => rw [e] at q; exact q
  | ct σ1 h1 => rw [e] at q; exact q
  | exc x σ1 h1 => rw [e] at q; exact q
  | bad => rw [e] at q; exact q
theorem CT {c : Expr} {a b : List Stmt} {t : TF} {fa fb : SF} (hc : MT X c t) (ha : NSs X E a fa) (hb : NSs X E b fb) : NS X E (.If c a b pos) (iZ t fa fb) := by
  refine PS.imp (Fw hc ha hb) fun En σ H ⟨ρ, σd, hd, rs, q⟩ => ⟨ρ, σd, hd, rs, ?_⟩
  unfold iZ at q
  cases e : t σd hd with
  | exc x h' => rw [e] at q; exact q
  | bad => rw [e] at q; exact q
  | ok c h' =>
    rw [e] at q
    intro b H' ρ' ex rs' hb
    cases hb
    cases c with
    | true => rw [if_pos rfl]; exact ⟨ρ', σd, h', rs', iG.ext ex q⟩
    | false => rw [if_neg Bool.false_ne_true]; exact ⟨ρ', σd, h', rs', iG.ext ex q⟩
theorem jj {e : Expr} {f : EF} (h : NE X E e f) (hs : swapsWith e none pos.line X.env = pure false := by rfl) : NS X E (.Expr e pos) (dJ f) := by
  refine PS.imp (y6 h hs) fun En σ H ⟨ρ, σd, hd, rs, p⟩ => ⟨ρ, σd, hd, rs, (iG.outE p).imp fun v H1 ⟨ρ1, d, hd1, e1, rs1, rv, p1⟩ => ?_⟩
  exact p1 σ H1 ρ1 Ext.refl rs1
end
end Fm
set_option Elab.async false
set_option linter.all false
set_option maxRecDepth 100000
namespace L2
open PySem PySem.Spec PyProof.Rows
section
variable {X : Cx} {E : Addr → Hp → Prop} {e : Value} {s' : Shared} {R : Value → Shared → Prop}
theorem Cov.unwish {pins : List (Addr × Obj)} {H : Hp} {B : Heap} (c : Cov (X.wish R) pins H B) : Cov X pins H B := ⟨c.trk, c.old, c.pin⟩
theorem XF.unwish (h : XF (X.wish R) E e s') : XF X E e s' := by
  obtain ⟨pins, σ, H, a, C, B, t, he, I, fl, c, q⟩ := h
  exact ⟨pins, σ, H, a, C, B, t, he, I.unwish, fl, c.unwish, q⟩
theorem PS.xe {st : Stmt} {t : TS} (hx : ∀ e s', R e s' → X.xe e s') (h : PS (X.wish R) st t) : PS X st t := fun pins s σ H D I hw =>
  wpAny_mono (h pins s σ H D (I.wish _) hw) (fun _ _ q => q.unwish) hx
end
end L2
namespace Fm
open PySem PySem.Spec L2 PyProof.Rows
section
variable {X : Cx} {E : Addr → Hp → Prop} {pos p : Pos}
theorem CU {n : String} {C : Addr} {bm : List Value} {B newId initId : String} {np cpos cp : Pos} {txt : Str} {j} (O : OwnCls (Str.ofString n) C bm newId X.mg X.base) (FB : ExcBaseFacts B newId initId bm) (hc : X.calm = true) (hg : Gl X (Str.ofString n)) (hx : ∀ e s', XP X E e s' → X.xe e s')
    (hdb : (Str.ofString n == ("__debug__" : Str)) = false := by decide) : NS X E (.Raise (some (.Call (.Name (Str.ofString n) np) [.Constant (.str txt) j cp] [] cpos)) none pos) (tJ n) := PS.xe hx (CO O FB hc hg hdb E)
end
section
variable {P : Program} {w : World} {K : PySem.W.Frag} {mg : Str → Option Value} {base : Heap}
def u7 (K : PySem.W.Frag) (mg : Str → Option Value) (ρ : List Addr) (H : Hp) (r : Res D) (E : XK) (Q : VK) : Prop := match r with
  | .ok d hd' => ∀ v H' ρ', Ext ρ H ρ' H' → RH K ρ' H' hd' → RD K ρ' H' d v → Q v H'
  | .exc x hd' => XC K mg ρ H (fun C H' => E (.ref C) none H') x hd'
  | .bad => False
theorem u7.letGo {ρ : List Addr} {H : Hp} {hd : Hd} {r : Res D} {E : XK} {Q : VK} (rh : RH K ρ H hd) (p : u7 K mg ρ H (letGo hd r) E Q) : u7 K mg ρ H r E Q := by
  cases r with
  | exc x h' => exact p
  | bad => exact p
  | ok d h' =>
    have q : kC K ρ H (Fm.letGo hd (.ok d h')) Q := by
      simp only [Fm.letGo] at p ⊢
      split at p <;> rename_i c
      · rw [if_pos c]; exact p
      · rw [if_neg c]; exact p
    exact kC.letGo rh q
theorem tK {x : Str} {st : Stmt} {f : Addr} {fd : FuncData} {N ps : List Str} {k : Nat} {b : SF} (F : Fun K x x st f fd) (S : aX N ps (ak st))
    (body : ∀ (cdv : Value) (A : Around) (outer : List Env) (s : Shared) (H : Hp) (E : XK), fZ k (A.deeper (envOfC x (ak st) s.heap.objs.size f cdv)) →
      NSs (mF (CX1 P w) P w K mg base N x (ak st) f cdv A outer s H E) (fun C H' => E (.ref C) none H') (aS st) b) :
    ce P w K mg base (CX1 P w) (k + 1) f fd ps (spY K mg (bE ps.length N.length b) ps.length) := by
  obtain ⟨oc, od, kV, doc, pm, an, cdv, ct, osl, rfl, lk, hcd⟩ := F.ex
  refine Fy lk hcd S (fun vs H Q E ⟨ρ, hd, ds, rh, rd, hl, p⟩ => by rw [← rd.length]; exact hl) fun A outer s H vs Q E hr ⟨ρ, hd, ds, rh, rd, hl, p⟩ => ⟨_, body cdv A outer s H E hr, ρ, _, hd, ⟨rh, rE rd⟩, ?_⟩
  have p0 : u7 K mg ρ H (bE ps.length N.length b ds hd) E Q := p
  unfold bE at p0
  rw [if_pos hl] at p0
  have p1 := u7.letGo rh p0
  unfold runB at p1
  cases e2 : b (ds.map some ++ List.replicate (N.length - ds.length) none) hd with
  | nx σ1 h1 => rw [e2] at p1; exact fun σ' H' ρ' ex rs' => p1 .non H' ρ' ex rs'.hp (by simp only [RD])
  | rt d h1 => rw [e2] at p1; exact p1
  | bk _ _ => rw [e2] at p1; exact p1.elim
  | ct _ _ => rw [e2] at p1; exact p1.elim
  | bad => rw [e2] at p1; exact p1.elim
  | exc y σ1 h1 => rw [e2] at p1; exact p1
theorem i3.mk' {x : Str} {f : Addr} {fd : FuncData} {ps : List Str} {k np : Nat} {F : Fn} (hm : mg x = some (.ref f)) (hk : PySem.W.keepIn K (.ref f) = true) (hb : iO K fd ps []) (h : ce P w K mg base (CX1 P w) k f fd ps (spY K mg F np)) : i3 P w K mg base x k np F := ⟨f, fd, ps, hm, hk, hb, h⟩
end
end Fm
set_option Elab.async false
set_option linter.all false
set_option maxRecDepth 100000
namespace Fm
open PySem PySem.Spec L2 PyProof.Rows
section
variable {X : Cx} {pos p : Pos}
end
end Fm
namespace Fm
def va (n i : Nat) (cs : List String) (b : SF) : SF := fun σ h => match b σ h with
  | .nx σ' h' => .nx σ' h'
  | .exc (.exn c []) _ h' => if c ∈ cs then .nx ((List.replicate n none).set i (some (.exn c []))) h' else .bad
  | _ => .bad
def isX (tb : List (String × Bool)) : D → Option Bool
  | .exn c _ => tb.lookup c
  | _ => none
def wY (tb : List (String × Bool)) (a : EF) : EF := fun σ h => (a σ h).bind fun x h => match isX tb x with | some b => .ok (.bl b) h | none => .bad
end Fm
set_option Elab.async false
set_option linter.all false
set_option maxRecDepth 100000
namespace L2
open PySem PySem.Spec PyProof.Rows
def IC (K : PySem.W.Frag) (M : Addr) (i L : Nat) (tb : (Addr → Hp → Prop) → TS) : TS := fun D σ H => ∃ E : Addr → Hp → Prop, tb E { nx := D.nx, rt := fun _ _ => False } σ H ∧
  ∀ C H' a σ', E C H' → H' a = none → σ'.length = L → σ'[i]? = some (some (.ref a)) → PySem.W.subIn K (.ref C) (.ref M) = some true ∧ D.nx σ' (upd H' a (jL a C))
section
variable {X : Cx} {body : List Stmt} {x n c : Str} {M : Addr} {i j : Nat} {np cp vp ap hp pos : Pos} {tb : (Addr → Hp → Prop) → TS}
theorem Al (hb : ∀ q E, PSs ((X.pin q).wish (XF (X.pin q) E)) body (tb E)) (hxe : X.xe = fun _ _ => False) (hstk : X.stack = X.env :: X.outer) (hfr : X.env.frame = some X.env.locals) (hm : X.mg x = some (.ref M)) (hg : Gl X x)
    (hbe : PySem.W.subIn X.K (.ref M) (.type "BaseException") = some true) (his : (PySem.W.clsIn X.K M).isSome = true) (hty : PySem.W.typeIn X.K (.ref M) = some (.type "type")) (hN : X.N.Nodup) (hij : i ≠ j) (hj : X.N[j]? = some n) (hjl : X.env.scope.names.lookup n = some .local)
    (hi : X.N[i]? = some c) (hil : X.env.scope.names.lookup c = some .local) (hdb : (x == ("__debug__" : Str)) = false := by decide) (hd1 : (n == ("__debug__" : Str)) = false := by decide) (hd2 : (n == ("__classdict__" : Str)) = false := by decide)
    (hs : swapsWith (.Name n vp) (some (.Name c cp)) ap.line X.env = pure false := by rfl) :
    PS X (.Try body [.ExceptHandler (some (.Name x np)) (some n) [.Assign [.Name c cp] (.Name n vp) ap] hp] [] [] pos) (IC X.K M i X.N.length tb) := by
  rintro pins s σ H D I ⟨E, h1, h2⟩
  refine wpAny_Try_except (wpAny_mono (hb (X.pn ++ pins) E [] s σ H _ ((I.pinq).wish _) h1) (fun f s1 q => ?_) (fun e s1 q => ?_))
  · cases f with
    | next => obtain ⟨σ1, H1, J, q⟩ := q; exact sI pins s1 σ1 H1 D J.unwish.unpin q
    | brk => obtain ⟨_, _, _, q⟩ := q; exact q.elim
    | cont => obtain ⟨_, _, _, q⟩ := q; exact q.elim
    | ret u => obtain ⟨_, _, _, _, _, q⟩ := q; exact q.elim
  · obtain ⟨pins', σ', H', a, C, B, t, rfl, J, fl, cv, q⟩ := q
    have hf : X.A.frames = some (X.env :: X.outer) := by rw [← hstk]; exact I.ok.frames
    have fl' : Heap.FlyingW B (X.env :: X.outer) a (.ref C) (.ref t) s1.heap := by rw [← hstk]; exact fl
    have hn : H' a = none := by
      cases e : H' a with
      | none => rfl
      | some u => obtain ⟨o, z⟩ := cv.trk a u e; rw [fl.2.1] at z; cases z
    refine wpAny_looks_onW hf hfr fl' fun h4 hl4 sm4 => wpAny_landsW hl4 fun h5 fl5 sm5 => ?_
    have J5 := J.flown (h' := h5) fl.1 fl5.1 (sm4.trans sm5) cv s1.toks
    obtain ⟨oe, vs, hoe, hcl, hdt, _⟩ := fl5.first
    have hw : ∀ σ'', σ''.length = X.N.length → σ''[i]? = some (some (.ref a)) → PySem.W.subIn X.K (.ref C) (.ref M) = some true ∧ D.nx σ'' (upd H' a (jL a C)) := fun σ'' e1 e2 => h2 C H' a σ'' q hn e1 e2
    have hls : σ'.length = X.N.length := J.len
    have hit : i < X.N.length := (List.getElem?_eq_some_iff.mp hi).1
    have hsub : PySem.W.subIn X.K (.ref C) (.ref M) = some true := (hw (σ'.set i (some (.ref a))) (by simpa using hls) (by rw [List.getElem?_set_self (by omega)])).1
    refine wpAny_handleBy_cons (codeAny_handlers_test (Calls.Name_function_global J.ok.kind hg (Calls.loadGlobal_global (by rw [J.ok.glob]; exact J5.mod.glob.keeps J5.bk) hm ?_) hdb)) (by intro q; cases q)
    refine CL J5.kIn ⟨hoe, hcl⟩ hsub hbe his hty (codeAny_handlers_suite_as ?_)
    refine lands_againW fl5 fun h6 fl6 sm6 => ?_
    have J6 := J5.flown (h' := h6) fl5.1 fl6.1 sm6 cv s1.toks
    have J7 := J6.exc (by rw [show (X.pin (X.pn ++ pins)).stack = X.env :: X.outer from hstk]; exact fl6) cv
    refine mZ (X := X.pin (X.pn ++ pins)) J7 hN hj (.inl hjl) (v := .ref a) rfl (fun s8 J8 => ?_) (.inr hjl)
    have ps : PSs ((X.pin (X.pn ++ pins)).sui a) [.Assign [.Name c cp] (.Name n vp) ap] (F1 (HI j) (BO i)) := sJ (BR hN hi (.inl hil) (BJ hj (.inl hjl) hd1 hd2) hs (.inr hil))
    refine wpAny_mono (ps pins' s8 _ _ { nx := fun σ9 H9 => σ9 = (σ'.set j (some (.ref a))).set i (some (.ref a)) ∧ H9 = upd H' a (jL a C), rt := fun _ _ => False } (J8.marked a) ⟨.ref a, by rw [List.getElem?_set_self (by rw [J.len]; exact (List.getElem?_eq_some_iff.mp hj).1)], rfl, rfl⟩) (fun f s9 q => ?_) (fun _ _ z => z.elim)
    cases f with
    | brk => obtain ⟨_, _, _, q⟩ := q; exact q.elim
    | cont => obtain ⟨_, _, _, q⟩ := q; exact q.elim
    | ret u => obtain ⟨_, _, _, _, _, q⟩ := q; exact q.elim
    | next =>
      obtain ⟨σ9, H9, J9, rfl, rfl⟩ := q
      refine Inv.goes (X := X.pin (X.pn ++ pins)) (J9.unmark I.ok.hd) hN hj hjl fun s10 J10 => ⟨_, _, J10.unpin, (hw _ ?_ ?_).2⟩
      · simpa using hls
      · rw [List.getElem?_set_ne (Ne.symm hij), List.getElem?_set_self (by simp only [List.length_set]; omega)]
end
end L2
namespace Fm
open PySem PySem.Spec L2 PyProof.Rows
def nK (K : PySem.W.Frag) (f : Addr → Bool → Prop) (tb : List (String × Bool)) : Prop := ∀ c b, (c, b) ∈ tb → ∃ C, PySem.W.nsIn K mainGlobals (Str.ofString c) = some (some (.ref C)) ∧ nI K C ∧ f C b
theorem wZ {K : PySem.W.Frag} {f : Addr → Bool → Prop} : nK K f [] := fun _ _ h => absurd h (List.not_mem_nil)
theorem tL {K : PySem.W.Frag} {f : Addr → Bool → Prop} {c : String} {b : Bool} {tb : List (String × Bool)} {C : Addr} (n : PySem.W.nsIn K mainGlobals (Str.ofString c) = some (some (.ref C))) (Z : nI K C) (k : f C b) (r : nK K f tb) : nK K f ((c, b) :: tb) := fun c' b' h => by
  rcases List.mem_cons.mp h with e | e
  · cases e; exact ⟨C, n, Z, k⟩
  · exact r c' b' e
theorem j8 {c : String} {b : Bool} : ∀ {tb : List (String × Bool)}, tb.lookup c = some b → (c, b) ∈ tb
  | [], h => by cases h
  | (c', b') :: r, h => by
    rw [List.lookup_cons] at h
    cases e : c == c' with
    | true =>
      rw [e] at h
      have := eq_of_beq e
      subst this
      cases h
      exact List.mem_cons_self
    | false => rw [e] at h; exact List.mem_cons_of_mem _ (j8 h)
def Am (K : PySem.W.Frag) (mg : Str → Option Value) (M : Addr) (cs : List String) : Prop := ∀ c ∈ cs, ∃ C, mg (Str.ofString c) = some (.ref C) ∧ PySem.W.nsIn K mainGlobals (Str.ofString c) = some (some (.ref C)) ∧ PySem.W.subIn K (.ref C) (.ref M) = some true
theorem GV {K : PySem.W.Frag} {mg : Str → Option Value} {M : Addr} : Am K mg M [] := fun _ h => absurd h (List.not_mem_nil)
theorem EB {K : PySem.W.Frag} {mg : Str → Option Value} {M C : Addr} {c : String} {cs : List String} (g : mg (Str.ofString c) = some (.ref C)) (n : PySem.W.nsIn K mainGlobals (Str.ofString c) = some (some (.ref C))) (s : PySem.W.subIn K (.ref C) (.ref M) = some true) (r : Am K mg M cs) : Am K mg M (c :: cs) := fun c' h => by
  rcases List.mem_cons.mp h with e | e
  · subst e; exact ⟨C, g, n, s⟩
  · exact r c' e
section
variable {X : Cx} {pos p : Pos}
theorem GW {i j L : Nat} {c n x : Str} {M : Addr} {tb : List Stmt} {bt : SF} {cs : List String} {np cp vp ap hp : Pos} (hL : X.N.length = L) (hxe : X.xe = fun _ _ => False) (hb : ∀ q, MXs (X.pin q) (XF (X.pin q)) tb bt) (hstk : X.stack = X.env :: X.outer)
    (hfr : X.env.frame = some X.env.locals) (hm : X.mg x = some (.ref M)) (hg : Gl X x) (hbe : PySem.W.subIn X.K (.ref M) (.type "BaseException") = some true) (his : (PySem.W.clsIn X.K M).isSome = true)
    (hty : PySem.W.typeIn X.K (.ref M) = some (.type "type")) (hN : X.N.Nodup) (hij : i ≠ j) (hj : X.N[j]? = some n) (hjl : X.env.scope.names.lookup n = some .local) (hi : X.N[i]? = some c) (hil : X.env.scope.names.lookup c = some .local)
    (hcs : Am X.K X.mg M cs)
    (hdb : (x == ("__debug__" : Str)) = false := by decide) (hd1 : (n == ("__debug__" : Str)) = false := by decide) (hd2 : (n == ("__classdict__" : Str)) = false := by decide)
    (hs : swapsWith (.Name n vp) (some (.Name c cp)) ap.line X.env = pure false := by rfl) :
    MS X (.Try tb [.ExceptHandler (some (.Name x np)) (some n) [.Assign [.Name c cp] (.Name n vp) ap] hp] [] [] pos) (va L i cs bt) := by
  refine PS.imp (Al (tb := fun E => u5 X.K X.mg E bt) (fun q E => hb q E) hxe hstk hfr hm hg hbe his hty hN hij hj hjl hi hil hdb hd1 hd2 hs) fun En σ H ⟨ρ, σd, hd, rs, pp⟩ => ?_
  unfold va at pp
  cases e : bt σd hd with
  | nx σ1 h1 => rw [e] at pp; exact ⟨fun _ _ => False, ⟨ρ, σd, hd, rs, by rw [e]; exact pp⟩, fun _ _ _ _ z => z.elim⟩
  | rt _ _ => rw [e] at pp; exact pp.elim
  | bk _ _ => rw [e] at pp; exact pp.elim
  | ct _ _ => rw [e] at pp; exact pp.elim
  | bad => rw [e] at pp; exact pp.elim
  | exc y σ1 h1 =>
    rw [e] at pp
    cases y with
    | exn cn l =>
      cases l with
      | cons _ _ => exact pp.elim
      | nil =>
        simp only at pp
        split at pp
        · rename_i hcn
          obtain ⟨C, m1, m2, m3⟩ := hcs cn hcn
          refine ⟨fun C' H' => C' = C ∧ ∃ ρ', Ext ρ H ρ' H' ∧ RH X.K ρ' H' h1, ⟨ρ, σd, hd, rs, by rw [e]; exact ⟨cn, [], C, rfl, m1, fun H' ρ' ex r => ⟨rfl, ρ', ex, r⟩⟩⟩, ?_⟩
          rintro C' H' a σ' ⟨rfl, ρ', ex, r⟩ hn hl hi'
          refine ⟨m3, pp σ' _ ρ' (ex.sm (bF hn)) ⟨r.same (bF hn), ?_, fun k d hk => ?_⟩⟩
          · rw [List.length_set, List.length_replicate, hl, hL]
          · by_cases hki : k = i
            · subst hki
              have hlt : k < L := by rw [← hL]; exact (List.getElem?_eq_some_iff.mp hi).1
              simp only [slot, List.getElem?_set_self (show k < (List.replicate L (none : Option D)).length by rw [List.length_replicate]; exact hlt)] at hk
              cases hk
              exact ⟨.ref a, hi', by simp only [RD]; exact ⟨trivial, a, C', rfl, aT, m2⟩⟩
            · exfalso
              simp only [slot, List.getElem?_set_ne (Ne.symm hki)] at hk
              by_cases hlt : k < L
              · rw [List.getElem?_replicate_of_lt hlt] at hk; cases hk
              · rw [List.getElem?_eq_none (by rw [List.length_replicate]; omega)] at hk; cases hk
        · exact pp.elim
    | _ => exact pp.elim
theorem zv {tb : List (String × Bool)} {a : Expr} {fa : EF} {n : Str} {p2 : Pos} {v : V} (hc : rK v = true) (hg : Gl X "isinstance") (hm : X.mg "isinstance" = none) (hv : PE X (.Name n p2) (tC v))
    (htb : nK X.K (fun C b => PySem.W.kitOne X.K (.ref C) (mI v) = some b) tb) (ha : ME X a fa)
    (hs : starEach [a, .Name n p2] X.env = (false, eval a X.env) :: starEach [.Name n p2] X.env := by rfl) (hs2 : starEach [.Name n p2] X.env = (false, eval (.Name n p2) X.env) :: starEach [] X.env := by rfl) :
    ME X (.Call (.Name "isinstance" p) [a, .Name n p2] [] pos) (wY tb fa) := by
  refine PE.imp (gu CP hg hm (by decide +kernel) (bD ha (bD hv c9 hs2) hs) (he := hs)) fun σ H Q ⟨ρ, σd, hd, rs, pp⟩ => ⟨ρ, σd, hd, rs, (bo.bind (R := rD X.K) pp).imp fun v1 H1 ⟨ρ1, d, hd1, e1, rs1, rv, p1⟩ => ?_⟩
  cases d <;> try exact p1.elim
  rename_i c l
  simp only [isX] at p1
  cases e : tb.lookup c with
  | none => rw [e] at p1; exact p1.elim
  | some b =>
    rw [e] at p1
    simp only [rD, RD] at rv
    obtain ⟨rfl, q, C, rfl, hq, hn⟩ := rv
    obtain ⟨C', n', Z, k⟩ := htb c b (j8 e)
    rw [hn] at n'
    cases n'
    exact ⟨q, C, v, b, rfl, hc, hq, Z, k, p1.here rs1 (by simp only [rD, RD])⟩
theorem EC {tb : List (String × Bool)} {a : Expr} {fa : EF} {ns : List Expr} {kt} {p2 : Pos} {vs : List V} (hns : PA X ns fun _ H Q => Q vs H) (hvs : vs.all rK = true) (hlen : vs.length ≤ sizeLine) (hg : Gl X "isinstance") (hm : X.mg "isinstance" = none)
    (htb : nK X.K (fun C b => PySem.W.kitAny X.K (.ref C) (vs.map mI) = some b) tb) (ha : ME X a fa)
    (hs : starEach [a, .Tuple ns kt p2] X.env = (false, eval a X.env) :: starEach [.Tuple ns kt p2] X.env := by rfl) (hs2 : starEach [.Tuple ns kt p2] X.env = (false, eval (.Tuple ns kt p2) X.env) :: starEach [] X.env := by rfl) :
    ME X (.Call (.Name "isinstance" p) [a, .Tuple ns kt p2] [] pos) (wY tb fa) := by
  refine PE.imp (gu CQ hg hm (by decide +kernel) (bD ha (bD (BZ hns) c9 hs2) hs) (he := hs)) fun σ H Q ⟨ρ, σd, hd, rs, pp⟩ => ⟨ρ, σd, hd, rs, (bo.bind (R := rD X.K) pp).imp fun v1 H1 ⟨ρ1, d, hd1, e1, rs1, rv, p1⟩ => ?_⟩
  refine ⟨hlen, fun tp hnt => ?_⟩
  cases d <;> try exact p1.elim
  rename_i c l
  simp only [isX] at p1
  cases e : tb.lookup c with
  | none => rw [e] at p1; exact p1.elim
  | some b =>
    rw [e] at p1
    simp only [rD, RD] at rv
    obtain ⟨rfl, q, C, rfl, hq, hn⟩ := rv
    obtain ⟨C', n', Z, k⟩ := htb c b (j8 e)
    rw [hn] at n'
    cases n'
    have hq2 : upd H1 tp (.tup vs) q = some (jL q C) := by rw [aA (a8 hq hnt)]; exact hq
    have sm : gc H1 (upd H1 tp (.tup vs)) := bF hnt
    exact ⟨q, C, tp, vs, b, rfl, hvs, hq2, aT, Z, k, p1.at (Ext.same sm) (rs1.same sm) (by simp only [rD, RD])⟩
end
end Fm
namespace Fm
def kF (s : String) : List Nat := s.toList.map Char.toNat
@[simp] def An (a : EF) : EF := fun σ h => (a σ h).bind fun x h => match x with | .int i => if -1000000 ≤ i ∧ i ≤ 1000000 then .ok (.str (kF (toString i))) h else .bad | _ => .bad
end Fm
set_option Elab.async false
set_option linter.all false
set_option maxRecDepth 100000
namespace Fm
open PySem PySem.Spec L2 PyProof.Rows
section
variable {X : Cx} {pos p : Pos}
theorem ED {i : Int} (h : -1000000 ≤ i ∧ i ≤ 1000000) : i.natAbs.log2 < 1920 := by
  by_cases z : i.natAbs = 0
  · rw [z]; decide
  · rw [Nat.log2_lt z]
    exact Nat.lt_of_lt_of_le (show i.natAbs < 2 ^ 20 by omega) (Nat.pow_le_pow_right (by decide) (by decide))
theorem EE {a : Expr} {fa : EF} (hg : Gl X "str") (hm : X.mg "str" = none) (ha : ME X a fa) (hs : starEach [a] X.env = (false, eval a X.env) :: starEach [] X.env := by rfl) : ME X (.Call (.Name "str" p) [a] [] pos) (An fa) := by
  refine FD (g := fun x h => match x with | .int i => if -1000000 ≤ i ∧ i ≤ 1000000 then .ok (.str (kF (toString i))) h else .bad | _ => .bad) (Cb sM hg hm (by decide +kernel) (he := hs)) ha (fun ρ H σd hd σ d v Q rs rv p => ?_) hs
  cases d <;> first | exact p.elim | skip
  rename_i i
  simp only [RD] at rv; subst rv
  simp only at p
  split at p
  · rename_i hz
    exact ⟨i, rfl, ED hz, p.here rs (by simp only [rD, RD]; rw [PySem.Str.ofString_eq_toList]; rfl)⟩
  · exact p.elim
def spM (C : Addr) : Sp := fun vs H Q _ => ∃ a, vs = [.ref a] ∧ H a = some (jL a C) ∧ ∀ H', gc H H' → Q (.bl true) H'
structure JB (P : Program) (w : World) (K : PySem.W.Frag) (mg : Str → Option Value) (base : Heap) (x : Str) (k : Nat) (C : Addr) : Prop where
  ex : ∃ f fd ps, mg x = some (.ref f) ∧ PySem.W.keepIn K (.ref f) = true ∧ iO K fd ps [] ∧ ce P w K mg base CX0 k f fd ps (spM C)
end
end Fm
namespace Fm
def kG : List D → Option (List (List Nat))
  | [] => some []
  | .str x :: r => (kG r).map (x :: ·)
  | _ => none
def zw (a : LF) : EF := fun σ h => (a σ h).bind fun l h => match kG l with
  | some ss => if (ss.map (·.length)).sum ≤ 1000000 then .ok (.str ss.flatten) h else .bad
  | none => .bad
def EG : O2 := fun x y h => match x, y with
  | .bl b, .bl c => .ok (.bl (b == c)) h
  | _, _ => .bad
def ii : O2 := fun x y h => match x, y with
  | .bl b, .bl c => .ok (.bl (b != c)) h
  | _, _ => .bad
end Fm
set_option Elab.async false
set_option linter.all false
set_option maxRecDepth 100000
namespace Fm
open PySem PySem.Spec L2 PyProof.Rows
section
variable {X : Cx} {pos p : Pos}
theorem vb {K : PySem.W.Frag} {ρ : List Addr} {H : Hp} : ∀ {l : List D} {vs : List V} {ss : List (List Nat)}, RDs K ρ H l vs → kG l = some ss → vs = ss.map fun x => V.str (toS x)
  | [], _, is, r, e => by simp only [kG] at e; cases e; simp only [RDs] at r; subst r; rfl
  | d :: l, _, is, r, e => by
    simp only [RDs] at r
    obtain ⟨v, vs, rfl, h1, h2⟩ := r
    cases d <;> simp only [kG] at e <;> try (cases e; done)
    rename_i i
    cases c : kG l with
    | none => rw [c] at e; cases e
    | some js =>
      rw [c] at e
      cases e
      simp only [RD] at h1
      rw [h1, vb h2 c]
      rfl
theorem nM : ∀ {ss : List (List Nat)} {us : List Value}, aV (ss.map fun x => V.str (toS x)) us → StrsAre us (ss.map toS)
  | [], _, .nil => .nil
  | x :: ss, _, .cons r t => by obtain ⟨k, rfl⟩ := r; exact .cons _ _ (nM t)
theorem zx (a b : List Nat) : (toS a ++ toS b : Str) = toS (a ++ b) := by
  show (⟨a.toArray ++ b.toArray⟩ : Str) = ⟨(a ++ b).toArray⟩
  rw [List.append_toArray]
theorem vc : ∀ ss : List (List Nat), Str.join (toS []) (ss.map toS) = toS ss.flatten
  | [] => rfl
  | [x] => by rw [List.flatten_cons, List.flatten_nil, List.append_nil]; rfl
  | x :: y :: r => by
    have ih := vc (y :: r)
    show toS x ++ toS [] ++ Str.join (toS []) ((y :: r).map toS) = _
    rw [ih, zx, zx, List.append_nil, ← List.flatten_cons]
theorem vd (ss : List (List Nat)) : Txt.join (toS []) (ss.map toS) = toS ss.flatten := (StrLaws.glued_eq_join _ _).trans (vc ss)
def ID (K : PySem.W.Frag) : V → List V → Hp → VK → Prop := fun x vs H Q => ∃ (q : Addr) (ss : List (List Nat)), x = .str (toS []) ∧ vs = [.ref q] ∧ (SqL K H q (ss.map fun x => V.str (toS x)) ∨ H q = some (.tup (ss.map fun x => V.str (toS x)))) ∧ (ss.map (·.length)).sum ≤ 1000000 ∧ Q (.str (toS ss.flatten)) H
theorem EH : MtR X "str.join" (ID X.K) := by
  intro pins s σ H x vs v us Q I rx rv h
  obtain ⟨q, ss, rfl, rfl, sq, hz, hq⟩ := h
  obtain ⟨t, rfl⟩ := rx
  obtain ⟨u, rfl, ru⟩ := rv.one
  cases (show u = Value.ref q from ru)
  have hb : ((ss.map toS).map (·.length)).sum + (ss.map toS).length * (toS []).length ≤ 16777216 := by
    have : ((ss.map toS).map (·.length)) = ss.map (·.length) := by rw [List.map_map]; apply List.map_congr_left; intro a _; simp [toS, Str.length]
    rw [this]
    show _ + _ * 0 ≤ _
    omega
  rcases sq with sq | sq
  · obtain ⟨its, r, pl, _⟩ := I.list sq
    exact join_list pl.isList (by rw [List.toList_toArray]; exact nM r) hb fun t' k => ⟨.str (toS ss.flatten), H, I.tok k, ⟨t', by rw [vd]⟩, hq⟩
  · obtain ⟨_, its, r, ht⟩ := I.hok q _ sq
    exact join_tuple ht (by rw [List.toList_toArray]; exact nM r) hb fun t' k => ⟨.str (toS ss.flatten), H, I.tok k, ⟨t', by rw [vd]⟩, hq⟩
theorem EI {e : Expr} {L : LF} {apos cpos p1 : Pos} {j} {x : Str} (hx : x = toS []) (he : MQ X e L) (hbase : attributeBase (.Constant (.str x) j p1) "join" X.env (eval (.Constant (.str x) j p1) X.env) = eval (.Constant (.str x) j p1) X.env := by rfl)
    (hfew : ((backTo cpos (starEach [e] X.env)).all (fun x => !x.1) && (backToKw cpos (keywordEach [] X.env)).all (fun x => x.1.isSome)
      && decide (([e] : List Expr).length + ([] : List Keyword).length + (if ([] : List Keyword).isEmpty then 0 else 1) < 30)) = true := by rfl)
    (hline : (apos.endLine == cpos.line) = true := by rfl) (hs : starEach [e] X.env = (false, eval e X.env) :: starEach [] X.env := by rfl) :
    ME X (.Call (.Attribute (.Constant (.str x) j p1) "join" apos) [e] [] cpos) (zw L) := by
  refine PE.imp (B4 PySem.F.plainAttrs_str PySem.F.slot_str_join PySem.F.type_str_join EH wD (bD he c9 hs) hbase hfew hline hs) fun σ H Q ⟨ρ, σd, hd, rs, pp⟩ => ⟨rfl, ρ, σd, hd, rs, (bo.bind (R := rQ X.K) pp).imp fun v H1 ⟨ρ1, l, hd1, e1, rs1, ⟨q, vs, hv, sq, rvs⟩, p1⟩ => ?_⟩
  subst hv
  cases c : kG l with
  | none => simp only [c] at p1; exact p1.elim
  | some ss =>
    simp only [c] at p1
    split at p1
    · rename_i hz
      have e := vb rvs c
      subst e
      exact ⟨q, ss, by rw [hx], rfl, sq, hz, p1.here rs1 (by simp only [rD, RD])⟩
    · exact p1.elim
theorem w4 : OpR X (compareOp .Is) (fun x y H Q => ∃ b c, x = .bl b ∧ y = .bl c ∧ Q (.bl (b == c)) H) := by
  intro pins s σ H x y v u Q I rx ry h
  obtain ⟨b, c, rfl, rfl, q⟩ := h
  cases rx
  cases ry
  have key : ∀ (b c : Bool) (Q' : Value → Shared → Prop), Q' (.bool (b == c)) s → wpAny (model X.prog X.w) X.A (compareOp .Is (.bool b) (.bool c)) Q' X.xe s := fun b c Q' hq => by
    cases b <;> cases c <;> exact wpAny_pure hq
  exact key b c _ (sK I q rfl)
theorem w5 {K : PySem.W.Frag} : Og K EG (fun x y H Q => ∃ b c, x = .bl b ∧ y = .bl c ∧ Q (.bl (b == c)) H) := by
  intro ρ H σd hd σ d k v w Q rs rv rw' p
  cases d <;> cases k <;> first | exact p.elim | skip
  rename_i b c
  simp only [RD] at rv rw'
  exact ⟨b, c, rv, rw', p.here rs (by simp only [rD, RD])⟩
theorem jm : OpR X (compareOp .IsNot) (fun x y H Q => ∃ b c, x = .bl b ∧ y = .bl c ∧ Q (.bl (b != c)) H) := by
  intro pins s σ H x y v u Q I rx ry h
  obtain ⟨b, c, rfl, rfl, q⟩ := h
  cases rx
  cases ry
  have key : ∀ (b c : Bool) (Q' : Value → Shared → Prop), Q' (.bool (b != c)) s → wpAny (model X.prog X.w) X.A (compareOp .IsNot (.bool b) (.bool c)) Q' X.xe s := fun b c Q' hq => by
    cases b <;> cases c <;> exact wpAny_pure hq
  exact key b c _ (sK I q rfl)
theorem jo {K : PySem.W.Frag} : Og K ii (fun x y H Q => ∃ b c, x = .bl b ∧ y = .bl c ∧ Q (.bl (b != c)) H) := by
  intro ρ H σd hd σ d k v w Q rs rv rw' p
  cases d <;> cases k <;> first | exact p.elim | skip
  rename_i b c
  simp only [RD] at rv rw'
  exact ⟨b, c, rv, rw', p.here rs (by simp only [rD, RD])⟩
end
end Fm
namespace Fm
theorem Ao {h h' : Hd} {d : D} (e : h'.length ≤ h.length) : letGo h (.ok d h') = .ok d h' := by
  simp only [letGo]; split
  · rw [List.take_of_length_le e]
  · rfl
@[simp] theorem aG {h : Hd} {d : D} : letGo h (.ok d h) = .ok d h := Ao (Nat.le_refl _)
theorem Ap {h h' : Hd} {d : D} (e : pure? d = false) : letGo h (.ok d h') = .ok d h' := by
  simp [letGo, e]
@[simp] theorem GX {h h' : Hd} {n : Nat} : letGo h (.ok (.ref n) h') = .ok (.ref n) h' := Ap rfl
theorem fF {h g : Hd} {d : D} (e : pure? d = true) : letGo h (.ok d (h ++ g)) = .ok d h := by
  have : zd h (h ++ g) := fun n c hn hc => .inl (by rwa [List.getElem?_append_left hn] at hc)
  simp [letGo, e, this]
theorem Aq {h h' g : Hd} {d : D} (e : pure? d = true) (hl : h'.length = h.length) (ho : zd h (h' ++ g)) : letGo h (.ok d (h' ++ g)) = .ok d h' := by
  simp [letGo, e, ho, ← hl]
structure Web where
  ties : List (List (Nat × Int))
  bars : List Int
  stays : List (Option Int)
def bO : Option Int → D
  | none => .non
  | some i => .int i
def w6 (p : Nat × Int) : D := .tup [.int p.1, .int p.2]
def mJ (r : List (Nat × Int)) : D := .tup (r.map w6)
def aH (l : List Int) : D := .tup (l.map .int)
def Web.enc (w : Web) : D := .tup [.tup (w.ties.map mJ), .tup (w.bars.map .int), .tup (w.stays.map bO)]
structure Web.Ok (w : Web) (n : Nat) : Prop where
  t : w.ties.length = n
  b : w.bars.length = n
  s : w.stays.length = n
  lt : ∀ r ∈ w.ties, ∀ p ∈ r, p.1 < n
  sz : n ≤ 1000
structure j9 (w : Web) (n : Nat) (s : List Int) : Prop where
  len : s.length = n
  op : ∀ x ∈ s, x = 0 ∨ x = 1
  st : ∀ (i : Nat) (x : Int), w.stays[i]? = some (some x) → s[i]? = some x
theorem cI {l : List D} {i : Nat} {d : D} (e : l[i]? = some d) : atI l (i : Int) = some d := by
  have := (List.getElem?_eq_some_iff.mp e).1
  simp [atI, ixN, this]
  simpa [List.getElem?_eq_getElem this] using e
theorem b0 {g : Option Nat} {all : List D} {tg : GF} {cs : List TF} {e : EF} {h : Hd} (I : Sd → Prop) (p : D → Bool) (f : D → D) (hh : iK g all h) :
    ∀ {xs : List D} {σ : Sd}, (∀ x ∈ xs, ∀ σ, I σ → ∃ σ', tg x σ = some σ' ∧ I σ' ∧ iQ cs σ' h = .ok (p x) h ∧ (p x = true → e σ' h = .ok (f x) h)) → I σ →
      cw g all tg cs e xs σ h = .ok ((xs.filter p).map f) h
  | [], _, _, _ => by simp [cw, hh]
  | x :: xs, σ, st, i => by
    obtain ⟨σ', h1, h2, h3, h4⟩ := st x (by simp) σ i
    have ih := b0 I p f hh (xs := xs) (σ := σ') (fun y hy => st y (by simp [hy])) h2
    cases hp : p x with
    | true => simp [cw, hh, h1, h3, hp, h4 hp, ih]
    | false => simp [cw, hh, h1, h3, hp, ih]
theorem lC {g : Option Nat} {all : List D} {tg : GF} {b : SF} {rest : List D} (P : Nat → Sd → Hd → Prop) (hh : ∀ i σ h, P i σ h → iK g all h) :
    ∀ {xs : List D} {k : Nat} {σ : Sd} {h : Hd}, (∀ (i : Nat) x σ h, xs[i]? = some x → P (k + i) σ h → ∃ σ', tg x σ = some σ' ∧ ∃ σ'' h'', b σ' h = .nx σ'' h'' ∧ P (k + i + 1) σ'' h'') → P k σ h →
      ∃ σ' h', eA g all tg b (xs ++ rest) σ h = eA g all tg b rest σ' h' ∧ P (k + xs.length) σ' h'
  | [], k, σ, h, _, p => ⟨σ, h, rfl, by simpa using p⟩
  | x :: xs, k, σ, h, st, p => by
    obtain ⟨σ', h1, σ2, h2, h3, h4⟩ := st 0 x σ h (by simp) (by simpa using p)
    have st' : ∀ (i : Nat) y σ h, xs[i]? = some y → P (k + 1 + i) σ h → ∃ σ', tg y σ = some σ' ∧ ∃ σ'' h'', b σ' h = .nx σ'' h'' ∧ P (k + 1 + i + 1) σ'' h'' := fun i y σ h e q => by
      have e1 : k + 1 + i = k + (i + 1) := by omega
      rw [e1] at q ⊢
      exact st (i + 1) y σ h (by simpa using e) q
    obtain ⟨σ3, h5, h6, h7⟩ := lC P hh st' (by simpa using h4)
    refine ⟨σ3, h5, ?_, ?_⟩
    · rw [← h6, List.cons_append, eA, if_pos (hh _ _ _ p), h1]
      simp only [h3]
    · have e1 : k + (x :: xs).length = k + 1 + xs.length := by simp; omega
      rw [e1]; exact h7
theorem ff {g : Option Nat} {all : List D} {tg : GF} {b : SF} (P : Nat → Sd → Hd → Prop) (hh : ∀ i σ h, P i σ h → iK g all h)
    {xs : List D} {k : Nat} {σ : Sd} {h : Hd} (st : ∀ (i : Nat) x σ h, xs[i]? = some x → P (k + i) σ h → ∃ σ', tg x σ = some σ' ∧ ∃ σ'' h'', b σ' h = .nx σ'' h'' ∧ P (k + i + 1) σ'' h'') (p : P k σ h) :
      ∃ σ' h', eA g all tg b xs σ h = .nx σ' h' ∧ P (k + xs.length) σ' h' := by
  obtain ⟨σ', h', q, z⟩ := lC (rest := []) P hh st p
  rw [List.append_nil] at q
  exact ⟨σ', h', q.trans (by unfold eA; exact if_pos (hh _ _ _ z)), z⟩
theorem ka {g : Option Nat} {all : List D} {tg : GF} {e : EF} (P : Nat → Sd → Hd → Prop) (V : Nat → D → Prop) (hh : ∀ i σ h, P i σ h → iK g all h) :
    ∀ {xs : List D} {k : Nat} {σ : Sd} {h : Hd}, (∀ (i : Nat) x σ h, xs[i]? = some x → P (k + i) σ h → ∃ σ', tg x σ = some σ' ∧ ∃ d h'', e σ' h = .ok d h'' ∧ V (k + i) d ∧ P (k + i + 1) σ' h'') → P k σ h →
      ∃ ds h', cw g all tg [] e xs σ h = .ok ds h' ∧ ds.length = xs.length ∧ (∀ (i : Nat) d, ds[i]? = some d → V (k + i) d) ∧ ∃ σ', P (k + xs.length) σ' h'
  | [], k, σ, h, _, p => ⟨[], h, by simp [cw, hh _ _ _ p], rfl, by simp, σ, by simpa using p⟩
  | x :: xs, k, σ, h, st, p => by
    obtain ⟨σ', h1, d, h2, h3, hv, h4⟩ := st 0 x σ h (by simp) (by simpa using p)
    have st' : ∀ (i : Nat) y σ h, xs[i]? = some y → P (k + 1 + i) σ h → ∃ σ', tg y σ = some σ' ∧ ∃ d h'', e σ' h = .ok d h'' ∧ V (k + 1 + i) d ∧ P (k + 1 + i + 1) σ' h'' := fun i y σ h e q => by
      have e1 : k + 1 + i = k + (i + 1) := by omega
      rw [e1] at q ⊢
      exact st (i + 1) y σ h (by simpa using e) q
    obtain ⟨ds, h5, h6, hl, hvs, σ3, h7⟩ := ka P V hh st' (by simpa using h4)
    refine ⟨d :: ds, h5, ?_, by simp [hl], fun i d' hd => ?_, σ3, ?_⟩
    · simp [cw, hh _ _ _ p, h1, iQ, h3, h6]
    · cases i with
      | zero => simp at hd; subst hd; simpa using hv
      | succ i =>
        have := hvs i d' (by simpa using hd)
        rwa [show k + 1 + i = k + (i + 1) by omega] at this
    · have e1 : k + (x :: xs).length = k + 1 + xs.length := by simp; omega
      rw [e1]; exact h7
theorem w8 {α : Type} {n : Nat} {ds : List α} {f : Nat → α} (hl : ds.length = n) (h : ∀ (i : Nat) d, ds[i]? = some d → d = f i) : ds = (List.range n).map f := by
  apply List.ext_getElem?
  intro i
  by_cases hi : i < n
  · have : ds[i]? = some (ds[i]'(by omega)) := by simp [hl, hi]
    rw [this, h i _ this]
    simp [hi]
  · simp [hi, hl]
end Fm
set_option linter.all false
namespace Fm
theorem ar {F : Fn} {r : LF} {σ : Sd} {h h1 h' : Hd} {ds : List D} {d : D} (a : r σ h = .ok ds h1) (b : F ds h1 = .ok d h') : au F r σ h = .ok d h' := by
  show Res.bind _ _ = _; rw [a]; exact b
theorem af {a : EF} {r : LF} {σ : Sd} {h h1 h2 : Hd} {d : D} {ds : List D} (p : a σ h = .ok d h1) (q : r σ h1 = .ok ds h2) : ad a r σ h = .ok (d :: ds) h2 := by
  show Res.bind _ _ = _; rw [p, aI, q]; rfl
theorem am {g : O2} {a b : EF} {σ : Sd} {h h1 h2 h3 : Hd} {x y z : D} (p : a σ h = .ok x h1) (q : b σ h1 = .ok y h2) (r : g x y h2 = .ok z h3) : aj g a b σ h = .ok z h3 := by
  show Res.bind _ _ = _; rw [p, aI, q]; exact r
theorem fG {r : LF} {σ : Sd} {h h' : Hd} {xs : List D} (p : r σ h = .ok xs h') (q : xs.length ≤ SZ := by exact of_decide_eq_true rfl) : cj r σ h = .ok (.tup xs) h' := by
  show Res.bind _ _ = _; rw [p]; exact if_pos q
theorem lD {r : LF} {σ : Sd} {h h' : Hd} {xs : List D} (p : r σ h = .ok xs h') (q : xs.length ≤ SZ := by exact of_decide_eq_true rfl) : cy r σ h = .ok (.ref h'.length) (h' ++ [.lst xs]) := by
  show Res.bind _ _ = _; rw [p]; exact if_pos q
theorem nN {a : LF} {b : EF} {σ : Sd} {h h1 h2 : Hd} {l : List D} {i : Int} {d : D} (p : a σ h = .ok l h1) (q : b σ h1 = .ok (.int i) h2) (r : atI l i = some d) : fIx a b σ h = .ok d h2 := by
  show Res.bind _ _ = _; rw [p, aI, q]; simp only [aI, r]
theorem bq {a b : EF} {σ : Sd} {h h1 h2 : Hd} {x : D} {l : List D} {i : Int} {d : D} (p : a σ h = .ok x h1) (q : b σ h1 = .ok (.int i) h2) (s : jN h2 x = some l) (r : atI l i = some d) : fAt a b σ h = .ok d h2 := by
  show aj _ _ _ _ _ = _; exact am p q (by simp only [oAt, s, r])
theorem bP {h : Hd} {n : Nat} {l : List D} (p : h[n]? = some (.lst l)) : jN h (.ref n) = some l := by simp only [jN, p]
theorem aJ {i : Nat} {e : EF} {σ : Sd} {h h' : Hd} {d : D} (p : e σ h = .ok d h') : aR (gN i) e σ h = .nx (σ.set i (some d)) h' := by
  show outE _ _ _ = _; rw [p]; rfl
theorem bg {e : EF} {σ : Sd} {h h' : Hd} {d : D} (p : e σ h = .ok d h') : bb e σ h = .rt d h' := by
  show outE _ _ _ = _; rw [p]; rfl
theorem fH {e : EF} {σ : Sd} {h h' : Hd} {d : D} (p : e σ h = .ok d h') : dJ e σ h = .nx σ h' := by
  show outE _ _ _ = _; rw [p]; rfl
theorem kb {t : TF} {a b : SF} {σ : Sd} {h h1 : Hd} (p : t σ h = .ok true h1) : sIf t a b σ h = a σ h1 := by
  unfold sIf; rw [p]; rfl
theorem cF {t : TF} {a b : SF} {σ : Sd} {h h1 : Hd} (p : t σ h = .ok false h1) : sIf t a b σ h = b σ h1 := by
  unfold sIf; rw [p]; rfl
theorem aQ {a : EF} {σ : Sd} {h h' : Hd} {b : Bool} (p : a σ h = .ok (.bl b) h') : tE a σ h = .ok b h' := by
  show asB _ = _; rw [p]; rfl
theorem bT {t : TF} {σ : Sd} {h h' : Hd} {b : Bool} (p : t σ h = .ok b h') : cH t σ h = .ok (!b) h' := by
  show Res.bind _ _ = _; rw [p]; rfl
theorem eP {t u : TF} {σ : Sd} {h h1 h' : Hd} {b : Bool} (p : t σ h = .ok true h1) (q : u σ h1 = .ok b h') : fY t u σ h = .ok b h' := by
  show Res.bind _ _ = _; rw [p]; exact q
theorem jp {t u : TF} {σ : Sd} {h h1 : Hd} (p : t σ h = .ok false h1) : fY t u σ h = .ok false h1 := by
  show Res.bind _ _ = _; rw [p]; rfl
theorem fV {t u : TF} {σ : Sd} {h h1 h' : Hd} {b : Bool} (p : t σ h = .ok false h1) (q : u σ h1 = .ok b h') : tOr t u σ h = .ok b h' := by
  show Res.bind _ _ = _; rw [p]; exact q
theorem w9 {t u : TF} {σ : Sd} {h h1 : Hd} (p : t σ h = .ok true h1) : tOr t u σ h = .ok true h1 := by
  show Res.bind _ _ = _; rw [p]; rfl
theorem nO {i j : Int} {h : Hd} : oEq (.int i) (.int j) h = .ok (.bl (decide (i = j))) h := rfl
theorem dh {a : LF} {σ : Sd} {h h1 : Hd} {l : List D} (p : a σ h = .ok l h1) : dA a σ h = .ok (.int l.length) h1 := by
  show Res.bind _ _ = _; rw [p]; rfl
theorem cL {a : EF} {σ : Sd} {h h1 : Hd} {x : D} {l : List D} (p : a σ h = .ok x h1) (s : jN h1 x = some l) : lOf a σ h = .ok l h1 := by
  show Res.bind _ _ = _; rw [p]; simp only [aI, s]
theorem tM {x i e : EF} {σ : Sd} {h h1 h2 h3 : Hd} {d : D} {n k : Nat} {j : Int} {l : List D} (p : e σ h = .ok d h1) (q : x σ h1 = .ok (.ref n) h2) (r : i σ h2 = .ok (.int j) h3) (s : h3[n]? = some (.lst l)) (t : ixN l.length j = some k) : nt x i e σ h = .nx σ (h3.set n (.lst (l.set k d))) := by
  simp only [nt, p, q, r, outE, s, t]
theorem xa {x e : EF} {σ : Sd} {h h1 h2 : Hd} {d : D} {n : Nat} {l l0 : List D} (p : x σ h = .ok (.ref n) h1) (q : h1[n]? = some (.lst l0)) (r : e σ h1 = .ok d h2) (s : h2[n]? = some (.lst l)) (t : l.length < SZ) : mH x e σ h = .ok .non (h2.set n (.lst (l ++ [d]))) := by
  simp only [mH, p, aI, q, r, Gk, s, if_pos t]
theorem em {i j : Int} {h : Hd} (p : 0 < j) : cE (.int i) (.int j) h = .ok (.int (i % j)) h := by
  simp only [cE, oIc, decide_eq_true p, if_true]
theorem nP {i j : Int} {h : Hd} (p : 0 < j) (q : j < 2 ^ 250) : eU (.int i) (.int j) h = .ok (.int (i / j)) h := by
  simp only [eU, oIc, decide_eq_true p, decide_eq_true q, Bool.and_self, if_true]
theorem xb {i j : Int} {h : Hd} (e : i = j) : oEq (.int i) (.int j) h = .ok (.bl true) h := by rw [nO, decide_eq_true e]
theorem nQ {i j : Int} {h : Hd} (e : ¬ i = j) : oEq (.int i) (.int j) h = .ok (.bl false) h := by rw [nO, decide_eq_false e]
theorem GY {i j : Int} {h : Hd} (e : ¬ i < j) : oLt (.int i) (.int j) h = .ok (.bl false) h := by show Res.ok (D.bl (decide (i < j))) h = _; rw [decide_eq_false e]
theorem GZ {i j : Int} {h : Hd} (e : i < j) : oLt (.int i) (.int j) h = .ok (.bl true) h := by show Res.ok (D.bl (decide (i < j))) h = _; rw [decide_eq_true e]
theorem CV {i j : Int} {h : Hd} (p : (sml i || sml j) = true) : g9 (.int i) (.int j) h = .ok (.int (i * j)) h := by
  show (if (sml i || sml j) = true then _ else _) = _
  exact if_pos p
theorem jq {i j : Int} {h : Hd} (p : sml i = true) : g9 (.int i) (.int j) h = .ok (.int (i * j)) h := CV (by rw [p]; rfl)
theorem EJ {i j : Int} {h : Hd} (p : sml j = true) : g9 (.int i) (.int j) h = .ok (.int (i * j)) h := CV (by rw [p, Bool.or_true])
theorem iH {t : TF} {σ : Sd} {h h' : Hd} {b : Bool} (p : t σ h = .ok b h') : fT t σ h = .ok (.bl b) h' := by
  show Res.bind _ _ = _; rw [p]; rfl
theorem G0 {x i e : EF} {σ : Sd} {h h1 h2 h3 : Hd} {d : D} {n : Nat} {j : Int} {l l0 : List D} (p : x σ h = .ok (.ref n) h1) (q : h1[n]? = some (.lst l0)) (r : i σ h1 = .ok (.int j) h2) (u : e σ h2 = .ok d h3) (s : h3[n]? = some (.lst l)) (t : 0 ≤ j ∧ j ≤ l.length ∧ l.length < SZ) : Ag x i e σ h = .ok .non (h3.set n (.lst (l.take j.toNat ++ [d] ++ l.drop j.toNat))) := by
  simp only [Ag, p, aI, q, r, u, s, if_pos t]
theorem mP {r : LF} {σ : Sd} {h0 h g : Hd} {xs : List D} {A : Nat} (hA : A = h0.length) (p : r σ h = .ok xs (h0 ++ g)) (q : xs.length ≤ SZ) : cy r σ h = .ok (.ref (A + g.length)) (h0 ++ (g ++ [.lst xs])) := by
  rw [lD p q, hA, List.length_append, List.append_assoc]
theorem EK {σ : Sd} {h0 g : Hd} {A : Nat} (hA : A = h0.length) : iF σ (h0 ++ g) = .ok (.ref (A + g.length)) (h0 ++ (g ++ [.dct []])) := by
  show Res.ok (D.ref (h0 ++ g).length) ((h0 ++ g) ++ [.dct []]) = _
  rw [hA, List.length_append, List.append_assoc]
theorem mQ {h0 g : Hd} {A : Nat} (hA : A = h0.length) (k : Nat) (c : gv) : (h0 ++ g).set (A + k) c = h0 ++ g.set k c := by
  subst hA
  rw [List.set_append_right _ _ (by omega)]
  congr 2; omega
theorem eX {h0 g : Hd} {A : Nat} (hA : A = h0.length) (k : Nat) : (h0 ++ g)[A + k]? = g[k]? := by
  subst hA
  rw [List.getElem?_append_right (by omega), Nat.add_sub_cancel_left]
theorem fI {h0 : Hd} {j : Nat} {c : gv} (g : Hd) (e : h0[j]? = some c) : (h0 ++ g)[j]? = some c := (List.getElem?_append_left (List.getElem?_eq_some_iff.mp e).1).trans e
theorem dD {a : EF} {σ : Sd} {h h1 : Hd} {n : Nat} (p : a σ h = .ok (.int n) h1) (hn : n ≤ 1000) : cq a σ h = .ok ((List.range n).map (fun k : Nat => D.int k), none) h1 := by
  show Res.bind _ _ = _
  rw [p]
  exact if_pos ⟨Int.le_trans (by decide) (Int.natCast_nonneg n), Int.le_trans (Int.ofNat_le.mpr hn) (by decide)⟩
theorem i4 {it : IF} {tg : GF} {b : SF} {σ : Sd} {h h1 : Hd} {l : List D} {g : Option Nat} {o : Out} (p : it σ h = .ok (l, g) h1) (q : eA g l tg b l σ h1 = o) : jA it tg b σ h = o := by
  unfold jA; rw [p]; exact q
theorem dH {nl : Nat} {caps : List Nat} {it : IF} {tg : GF} {cs : List TF} {e : EF} {σ : Sd} {h h1 h2 : Hd} {l ds : List D} {g : Option Nat} (p : it σ h = .ok (l, g) h1) (q : cw g l tg cs e l (hU nl caps σ) h1 = .ok ds h2) : cg nl caps it tg cs e σ h = .ok ds h2 := by
  show Res.bind _ _ = _; rw [p]; exact q
theorem CW {la : LF} {b : EF} {σ : Sd} {h h1 h2 : Hd} {l : List D} {n : Int} (p : la σ h = .ok l h1) (q : b σ h1 = .ok (.int n) h2) (r : 0 ≤ n ∧ n ≤ 1000 ∧ l.length * n.toNat ≤ 1000) : nH la b σ h = .ok (List.replicate n.toNat l).flatten h2 := by
  simp only [nH, p, aI, q, if_pos r]
theorem G1 {k : Int} {n : Nat} {h : Hd} {l : List (Int × D)} (p : h[n]? = some (.dct l)) : Af (.int k) (.ref n) h = .ok (.bl (nF l k).isSome) h := by simp only [Af, p]
theorem zy {x i e : EF} {σ : Sd} {h h1 h2 h3 : Hd} {d : D} {n : Nat} {j : Int} {l : List (Int × D)} (p : e σ h = .ok d h1) (q : x σ h1 = .ok (.ref n) h2) (r : i σ h2 = .ok (.int j) h3) (s : h3[n]? = some (.dct l)) (t : l.length < SZ) : nG x i e σ h = .nx σ (h3.set n (.dct (wT l j d))) := by
  simp only [nG, p, q, r, outE, s, if_pos t]
theorem xc {a : EF} {σ : Sd} {h h1 : Hd} {n : Nat} {l : List D} (p : a σ h = .ok (.ref n) h1) (q : h1[n]? = some (.lst l)) : dR .list a σ h = .ok (.bl true) h1 := by
  simp only [dR, p, aI, sT, q]; rfl
theorem mR {a : EF} {σ : Sd} {h h1 : Hd} {n : Nat} {l : List D} (p : a σ h = .ok (.ref n) h1) (q : h1[n]? = some (.lst l)) : hJ a σ h = .ok (l, some n) h1 := by
  simp only [hJ, p, aI, q]
theorem G2 {a b : EF} {σ : Sd} {h h1 h2 : Hd} {i j : Int} (p : a σ h = .ok (.int i) h1) (q : b σ h1 = .ok (.int j) h2) : u0 a b σ h = .ok (.int (if j > i then j else i)) h2 := by
  simp only [u0, p, aI, q]
theorem G3 {a : EF} {σ : Sd} {h h1 : Hd} {b : Bool} (p : a σ h = .ok (.bl b) h1) : Ef a σ h = .ok (.int (b2i b)) h1 := by
  simp only [Ef, p, aI]
theorem G4 {a : LF} {σ : Sd} {h h1 : Hd} {l : List D} {is : List Int} (p : a σ h = .ok l h1) (q : iE l = some is) : Ee a σ h = .ok (.int is.sum) h1 := by
  simp only [Ee, p, aI, q]
theorem kH {a : LF} {σ : Sd} {h h1 : Hd} {l : List D} (p : a σ h = .ok l h1) : dQ a σ h = .ok (.tup l) h1 := by
  show Res.bind _ _ = _; rw [p]; rfl
theorem CY {i j : Int} {h : Hd} (e : j < i) : oGt (.int i) (.int j) h = .ok (.bl true) h := by show Res.ok (D.bl (decide (j < i))) h = _; rw [decide_eq_true e]
theorem CZ {i j : Int} {h : Hd} (e : ¬ j < i) : oGt (.int i) (.int j) h = .ok (.bl false) h := by show Res.ok (D.bl (decide (j < i))) h = _; rw [decide_eq_false e]
theorem zz {r : LF} {σ : Sd} {h h' : Hd} {xs : List D} {A : Nat} (hA : A = h'.length) (p : r σ h = .ok xs h') (q : xs.length ≤ SZ) : cy r σ h = .ok (.ref A) (h' ++ [.lst xs]) := by rw [hA]; exact lD p q
theorem jr {l : List Int} {i : Nat} (h : i < l.length) : atI (l.map D.int) (i : Int) = some (.int (l.getD i 0)) := cI (by rw [List.getElem?_map, List.getElem?_eq_getElem h, List.getD_eq_getElem?_getD, List.getElem?_eq_getElem h]; rfl)
theorem G5 {t : TF} {a b : EF} {σ : Sd} {h h1 : Hd} (p : t σ h = .ok true h1) : fIf t a b σ h = a σ h1 := by
  show Res.bind _ _ = _; rw [p]; rfl
theorem G6 {t : TF} {a b : EF} {σ : Sd} {h h1 : Hd} (p : t σ h = .ok false h1) : fIf t a b σ h = b σ h1 := by
  show Res.bind _ _ = _; rw [p]; rfl
theorem aM {a b : SF} {σ σ' : Sd} {h h' : Hd} (e : a σ h = .nx σ' h') : aE a b σ h = b σ' h' := by simp only [aE, e]
theorem kI {a b : SF} {σ : Sd} {h h' : Hd} {d : D} (e : a σ h = .rt d h') : aE a b σ h = .rt d h' := by simp only [aE, e]
theorem b6 {np n : Nat} {b : SF} {ds : List D} {σ : Sd} {h h' : Hd} {d : D} (hl : ds.length = np) (st : (ds.map some ++ List.replicate (n - ds.length) none : Sd) = σ) (e : b σ h = .rt d h') : bE np n b ds h = letGo h (.ok d h') := by
  unfold bE runB; rw [if_pos hl, st, e]
theorem IE {np n : Nat} {b : SF} {ds : List D} {σ σ' : Sd} {h h' : Hd} (hl : ds.length = np) (st : (ds.map some ++ List.replicate (n - ds.length) none : Sd) = σ) (e : b σ h = .nx σ' h') : bE np n b ds h = letGo h (.ok .non h') := by
  unfold bE runB; rw [if_pos hl, st, e]
theorem lE {t : TF} {σ : Sd} {h : Hd} {b : Bool} (p : t σ h = .ok b h) : iQ [t] σ h = .ok b h := by
  simp only [iQ, p, aI]; cases b <;> rfl
theorem vf {a : EF} {σ : Sd} {h h1 : Hd} {l : List D} (p : a σ h = .ok (.tup l) h1) : hJ a σ h = .ok (l, none) h1 := by
  show Res.bind _ _ = _; rw [p]; rfl
theorem xf {a : LF} {σ : Sd} {h h1 : Hd} {l : List D} {bs : List Bool} (p : a σ h = .ok l h1) (q : gw l = some bs) : uN a σ h = .ok (.bl (bs.all id)) h1 := by
  simp only [uN, p, aI, q]
theorem kc (a b : Int) (h : Hd) : oNe (.int a) (.int b) h = .ok (.bl (!decide (a = b))) h := rfl
theorem cf {a b : EF} {σ : Sd} {h h1 h2 : Hd} {d e : D} (p : a σ h = .ok d h1) (q : b σ h1 = .ok e h2) : ad a (ad b ao) σ h = .ok [d, e] h2 := af p (af q rfl)
theorem Ar {n m : Nat} (h : n ≤ 30) (q : 30 ≤ m := by decide) : n ≤ m := Nat.le_trans h q
end Fm
set_option linter.all false
namespace Fm
noncomputable def bR : Fn := bE 1 1 (bb (fT (fY (tE (dR .int (aa 0))) (cH (tE (dR .bool (aa 0)))))))
noncomputable def aZ : Fn := bE 3 3 (bb (fT (fY (tE (au bR (ad (aa 0) ao))) (tE (nr oLe oLe (aa 1) (aa 0) (aa 2))))))
noncomputable def a0 : Fn := bE 1 1 (bb (au aZ (ad (aa 0) (ad (fC (.int 0)) (ad (fC (.int 1)) ao)))))
noncomputable def cD : Fn := bE 1 1 (bb (dA (lOf (fAt (aa 0) (fC (.int 0))))))
noncomputable def gD : Fn := bE 2 2 (bb (fAt (fAt (aa 0) (fC (.int 0))) (aa 1)))
noncomputable def gE : Fn := bE 2 2 (bb (fAt (fAt (aa 0) (fC (.int 1))) (aa 1)))
noncomputable def dW : Fn := bE 2 2 (bb (fAt (fAt (aa 0) (fC (.int 2))) (aa 1)))
noncomputable abbrev kJ : SF := (aE (sIf (cH (tE (au a0 (ad (aa 3) ao)))) (bb (fC (.bl false))) bn)
    (aE (aR (gN 4) (au dW (ad (aa 0) (ad (aa 2) ao))))
    (sIf (fY (tE (aj ee (aa 4) (fC .non))) (tE (aj oNe (aa 3) (aa 4)))) (bb (fC (.bl false))) bn)))
noncomputable def cM : Fn := bE 2 5 (aE (sIf (tOr (cH (tE (dR .tuple (aa 1)))) (tE (aj oNe (dA (lOf (aa 1))) (au cD (ad (aa 0) ao))))) (bb (fC (.bl false))) bn)
    (aE (jA (rq (aa 1)) (gT [2, 3]) kJ)
    (bb (fC (.bl true)))))
noncomputable def dX : Fn := bE 3 3 (bb (aj g9 (fC (.int 2)) (Ee (cg 2 [1] (hJ (au gD (ad (aa 0) (ad (aa 2) ao)))) (gT [0, 1]) [(tE (aj oEq (fAt (aa 2) (aa 0)) (fC (.int 1))))] (aa 1)))))
theorem kK (i : Int) (h : Hd) : bR [.int i] h = .ok (.bl true) h := (b6 (d := .bl true) (h' := h) rfl rfl rfl).trans aG
theorem fJ (i a b : Int) (h : Hd) : aZ [.int i, .int a, .int b] h = .ok (.bl (decide (a ≤ i) && decide (i ≤ b))) h := by
  have ch : nr oLe oLe (aa 1) (aa 0) (aa 2) [some (.int i), some (.int a), some (.int b)] h = .ok (.bl (decide (a ≤ i) && decide (i ≤ b))) h := by
    show (match D.bl (decide (a ≤ i)) with | .bl true => Res.ok (D.bl (decide (i ≤ b))) h | .bl false => .ok (.bl false) h | _ => .bad) = _
    cases decide (a ≤ i) <;> rfl
  have t : fY (tE (au bR (ad (aa 0) ao))) (tE (nr oLe oLe (aa 1) (aa 0) (aa 2))) [some (.int i), some (.int a), some (.int b)] h = .ok (decide (a ≤ i) && decide (i ≤ b)) h := eP (aQ (ar (af rfl rfl) (kK i h))) (aQ ch)
  exact (b6 rfl rfl (bg (iH t))).trans aG
theorem b9 (i : Int) (h : Hd) : a0 [.int i] h = .ok (.bl (decide (0 ≤ i) && decide (i ≤ 1))) h := by
  exact (b6 rfl rfl (bg (ar (af rfl (cf rfl rfl)) (fJ i 0 1 h)))).trans aG
theorem fW (w : Web) (h : Hd) : cD [w.enc] h = .ok (.int w.ties.length) h := by
  have := (b6 (np := 1) (n := 1) (b := bb (dA (lOf (fAt (aa 0) (fC (.int 0)))))) (ds := [w.enc]) (h := h) rfl rfl (bg (dh (cL (bq rfl rfl rfl rfl) rfl)))).trans aG
  rwa [List.length_map] at this
theorem vg (w : Web) (h : Hd) {p : Nat} {r : List (Nat × Int)} (e : w.ties[p]? = some r) : gD [w.enc, .int p] h = .ok (mJ r) h := by
  have q : atI (w.ties.map mJ) (p : Int) = some (mJ r) := cI (by simp [e])
  exact (b6 rfl rfl (bg (bq (bq rfl rfl rfl rfl) rfl rfl q))).trans aG
theorem xg (w : Web) (h : Hd) {p : Nat} {r : Int} (e : w.bars[p]? = some r) : gE [w.enc, .int p] h = .ok (.int r) h := by
  have q : atI (w.bars.map .int) (p : Int) = some (.int r) := cI (by simp [e])
  exact (b6 rfl rfl (bg (bq (bq rfl rfl rfl rfl) rfl rfl q))).trans aG
theorem dY (w : Web) (h : Hd) {p : Nat} {r : Option Int} (e : w.stays[p]? = some r) : dW [w.enc, .int p] h = .ok (bO r) h := by
  have q : atI (w.stays.map bO) (p : Int) = some (bO r) := cI (by simp [e])
  exact (b6 rfl rfl (bg (bq (bq rfl rfl rfl rfl) rfl rfl q))).trans aG
theorem mS {w : Web} {n : Nat} {s : List Int} (W : w.Ok n) (F : j9 w n s) (h : Hd) : cM [w.enc, aH s] h = .ok (.bl true) h := by
  obtain ⟨σ', h', h1, h2, a, b, c, h3⟩ := ff (P := fun _ σ h' => h' = h ∧ ∃ a b c, σ = [some w.enc, some (aH s), a, b, c]) (g := none) (k := 0)
      (all := ((List.range (s.map D.int).length).zip (s.map D.int)).map fun p => D.tup [.int (p.1 : Nat), p.2]) (fun _ _ _ _ => trivial)
      (xs := ((List.range (s.map D.int).length).zip (s.map D.int)).map fun p => D.tup [.int (p.1 : Nat), p.2]) (tg := gT [2, 3]) (σ := [some w.enc, some (aH s), none, none, none]) (h := h)
      (b := kJ) (by
      rintro i x σ h0 hx ⟨rfl, a, b, c, rfl⟩
      have hi : i < s.length := by
        have := (List.getElem?_eq_some_iff.mp hx).1
        simpa using this
      have hx' : x = .tup [.int (i : Nat), .int s[i]] := by simpa [hi, List.getElem?_eq_getElem] using hx.symm
      subst hx'
      have hs : w.stays[i]? = some (w.stays[i]'(by rw [W.s, ← F.len]; exact hi)) := List.getElem?_eq_getElem _
      generalize w.stays[i]'(by rw [W.s, ← F.len]; exact hi) = st at hs
      have op : a0 [.int s[i]] h0 = .ok (.bl true) h0 := by
        rw [b9]; rcases F.op _ (List.getElem_mem hi) with e | e <;> rw [e] <;> rfl
      have s1 : sIf (cH (tE (au a0 (ad (aa 3) ao)))) (bb (fC (.bl false))) bn [some w.enc, some (aH s), some (.int i), some (.int s[i]), c] h0 = .nx [some w.enc, some (aH s), some (.int i), some (.int s[i]), c] h0 := cF (bT (aQ (ar (af rfl rfl) op)))
      have sv := dY w h0 hs
      cases st with
      | none => exact ⟨_, rfl, _, h0, (aM s1).trans ((aM (aJ (ar (cf rfl rfl) sv))).trans (cF (jp (aQ (am rfl rfl rfl))))), rfl, _, _, _, rfl⟩
      | some y =>
        have hy : s[i] = y := by have := F.st i y hs; rw [List.getElem?_eq_getElem hi] at this; exact Option.some.inj this
        exact ⟨_, rfl, _, h0, (aM s1).trans ((aM (aJ (ar (cf rfl rfl) sv))).trans (cF (eP (aQ (am rfl rfl rfl)) (aQ (am rfl rfl (by rw [show bO (some y) = D.int y from rfl, kc, decide_eq_true hy]; rfl)))))), rfl, _, _, _, rfl⟩) ⟨rfl, _, _, _, rfl⟩
  rw [h2, h3] at h1
  have s1 : sIf (tOr (cH (tE (dR .tuple (aa 1)))) (tE (aj oNe (dA (lOf (aa 1))) (au cD (ad (aa 0) ao))))) (bb (fC (.bl false))) bn [some w.enc, some (aH s), none, none, none] h = .nx [some w.enc, some (aH s), none, none, none] h :=
    cF (fV (bT (b := true) (aQ rfl)) (aQ (am (dh (cL rfl rfl)) (ar (af rfl rfl) (fW w h)) (by rw [kc, List.length_map, F.len, W.t, decide_eq_true rfl]; rfl))))
  exact (b6 rfl rfl ((aM s1).trans ((aM (i4 rfl h1)).trans (bg rfl)))).trans aG
theorem As (l : List Int) : iE (l.map .int) = some l := by
  induction l with
  | nil => rfl
  | cons x xs ih => simp [iE, ih]
theorem G7 {s : List Int} {i : Nat} (h : i < s.length) : atI (s.map .int) (i : Int) = some (.int s[i]) := cI (by simp [h])
def tN (r : List (Nat × Int)) (s : List Int) : List Int := (r.filter fun p => decide (s.getD p.1 0 = 1)).map (·.2)
def tO (r : List (Nat × Int)) (s : List Int) : Int := (tN r s).sum
theorem C0 {r : List (Nat × Int)} {s : List Int} (hr : ∀ q ∈ r, q.1 < s.length) (h : Hd) : cw none (r.map w6) (gT [0, 1]) [(tE (aj oEq (fAt (aa 2) (aa 0)) (fC (.int 1))))] (aa 1) (r.map w6) [none, none, some (aH s)] h = .ok ((tN r s).map D.int) h := by
  have key : cw none (r.map w6) (gT [0, 1]) [(tE (aj oEq (fAt (aa 2) (aa 0)) (fC (.int 1))))] (aa 1) (r.map w6) [none, none, some (aH s)] h
      = .ok (((r.map w6).filter fun d => match d with | .tup [.int i, _] => decide (s.getD i.toNat 0 = 1) | _ => false).map fun d => match d with | .tup [_, x] => x | _ => .non) h := by
    refine b0 (g := none) (I := fun σ => ∃ a b, σ = [a, b, some (aH s)]) _ _ trivial ?_ ⟨_, _, rfl⟩
    rintro x hx σ ⟨a, b, rfl⟩
    obtain ⟨⟨q, wt⟩, hq, rfl⟩ := List.mem_map.mp hx
    exact ⟨_, rfl, ⟨_, _, rfl⟩, lE (aQ (am (bq rfl rfl rfl (jr (hr _ hq))) rfl nO)), fun _ => rfl⟩
  rw [key, tN, List.filter_map, List.map_map, List.map_map]
  rfl
theorem nR {w : Web} {n : Nat} {s : List Int} (W : w.Ok n) (hs : s.length = n) {p : Nat} {r : List (Nat × Int)} (e : w.ties[p]? = some r) (h : Hd) :
    dX [w.enc, aH s, .int p] h = .ok (.int (2 * tO r s)) h := by
  have hr : ∀ q ∈ r, q.1 < s.length := fun q hq => by rw [hs]; exact W.lt r (List.mem_of_getElem? e) q hq
  exact (b6 rfl rfl (bg (am rfl (G4 (dH (vf (ar (cf rfl rfl) (vg w h e))) (C0 hr h)) (As _)) (jq (by decide))))).trans aG
end Fm
set_option linter.all false
namespace Fm
noncomputable def dl : Fn := bE 3 6 (aE (aR (gN 3) (au dW (ad (aa 0) (ad (aa 2) ao))))
    (aE (sIf (tE (aj ee (aa 3) (fC .non))) (bb (aa 3)) bn)
    (aE (aR (gN 4) (au dX (ad (aa 0) (ad (aa 1) (ad (aa 2) ao)))))
    (aE (aR (gN 5) (au gE (ad (aa 0) (ad (aa 2) ao))))
    (aE (sIf (tE (aj oEq (aa 4) (aa 5))) (bb (fAt (aa 1) (aa 2))) bn)
    (bb (fIf (tE (aj oGt (aa 4) (aa 5))) (fC (.int 1)) (fC (.int 0)))))))))
noncomputable def gF : Fn := bE 2 2 (bb (dQ (cg 1 [0, 1] (cq (au cD (ad (aa 0) ao))) (gN 0) [] (au dl (ad (aa 1) (ad (aa 2) (ad (aa 0) ao)))))))
def nS (w : Web) (s : List Int) (p : Nat) : Int := match w.stays.getD p none with
  | some x => x
  | none => if 2 * tO (w.ties.getD p []) s = w.bars.getD p 0 then s.getD p 0 else if w.bars.getD p 0 < 2 * tO (w.ties.getD p []) s then 1 else 0
def vh (w : Web) (n : Nat) (s : List Int) : List Int := (List.range n).map (nS w s)
theorem nT {w : Web} {n : Nat} {s : List Int} (W : w.Ok n) (F : j9 w n s) {p : Nat} (hp : p < n) (h : Hd) : dl [w.enc, aH s, .int p] h = .ok (.int (nS w s p)) h := by
  have ht : p < w.ties.length := by rw [W.t]; exact hp
  have hb : p < w.bars.length := by rw [W.b]; exact hp
  have hst : p < w.stays.length := by rw [W.s]; exact hp
  have hs : p < s.length := by rw [F.len]; exact hp
  have et : w.ties[p]? = some w.ties[p] := by simp [ht]
  have eb : w.bars[p]? = some w.bars[p] := by simp [hb]
  have es : w.stays[p]? = some w.stays[p] := by simp [hst]
  have pull := nR W F.len et h
  have gt : w.ties.getD p [] = w.ties[p] := by simp [List.getD, ht]
  have gb : w.bars.getD p 0 = w.bars[p] := by simp [List.getD, hb]
  have gs : w.stays.getD p none = w.stays[p] := by simp [List.getD, hst]
  have gi : s.getD p 0 = s[p] := by simp [List.getD, hs]
  have ai := G7 hs
  cases c : w.stays[p] with
  | some x =>
    rw [c] at es
    have nx : nS w s p = x := by unfold nS; rw [gs, c]
    rw [nx]
    exact (b6 rfl rfl ((aM (aJ (ar (cf rfl rfl) (dY w h es)))).trans (kI ((kb (aQ (am rfl rfl rfl))).trans (bg rfl))))).trans aG
  | none =>
    rw [c] at es
    have sv := dY w h es
    have bv := xg w h eb
    simp only [nS, gs, c, gt, gb, gi]
    have s1 : aR (gN 3) (au dW (ad (aa 0) (ad (aa 2) ao))) [some w.enc, some (aH s), some (.int p), none, none, none] h = .nx [some w.enc, some (aH s), some (.int p), some .non, none, none] h := aJ (ar (cf rfl rfl) sv)
    have s2 : sIf (tE (aj ee (aa 3) (fC .non))) (bb (aa 3)) bn [some w.enc, some (aH s), some (.int p), some .non, none, none] h = .nx [some w.enc, some (aH s), some (.int p), some .non, none, none] h := cF (aQ (am rfl rfl rfl))
    generalize 2 * tO w.ties[p] s = P at pull
    have s3 : aR (gN 4) (au dX (ad (aa 0) (ad (aa 1) (ad (aa 2) ao)))) [some w.enc, some (aH s), some (.int p), some .non, none, none] h = .nx [some w.enc, some (aH s), some (.int p), some .non, some (.int P), none] h := aJ (ar (af rfl (cf rfl rfl)) pull)
    have s4 : aR (gN 5) (au gE (ad (aa 0) (ad (aa 2) ao))) [some w.enc, some (aH s), some (.int p), some .non, some (.int P), none] h = .nx [some w.enc, some (aH s), some (.int p), some .non, some (.int P), some (.int w.bars[p])] h := aJ (ar (cf rfl rfl) bv)
    have go : ∀ {v : Int}, aE (sIf (tE (aj oEq (aa 4) (aa 5))) (bb (fAt (aa 1) (aa 2))) bn) (bb (fIf (tE (aj oGt (aa 4) (aa 5))) (fC (.int 1)) (fC (.int 0)))) [some w.enc, some (aH s), some (.int p), some .non, some (.int P), some (.int w.bars[p])] h = .rt (.int v) h → dl [w.enc, aH s, .int p] h = .ok (.int v) h := fun e => (b6 rfl rfl ((aM s1).trans ((aM s2).trans ((aM s3).trans ((aM s4).trans e))))).trans aG
    by_cases e1 : P = w.bars[p]
    · rw [if_pos e1]; exact go (kI ((kb (aQ (am rfl rfl (xb e1)))).trans (bg (bq rfl rfl rfl ai))))
    · rw [if_neg e1]
      by_cases e2 : w.bars[p] < P
      · rw [if_pos e2]; exact go ((aM (cF (aQ (am rfl rfl (nQ e1))))).trans (bg ((G5 (aQ (am rfl rfl (CY e2)))).trans rfl)))
      · rw [if_neg e2]; exact go ((aM (cF (aQ (am rfl rfl (nQ e1))))).trans (bg ((G6 (aQ (am rfl rfl (CZ e2)))).trans rfl)))
theorem xh {w : Web} {n : Nat} {s : List Int} (W : w.Ok n) (F : j9 w n s) (h : Hd) : gF [w.enc, aH s] h = .ok (aH (vh w n s)) h := by
  have key : cw none ((List.range n).map fun k : Nat => D.int k) (gN 0) [] (au dl (ad (aa 1) (ad (aa 2) (ad (aa 0) ao)))) ((List.range n).map fun k : Nat => D.int k) [none, some w.enc, some (aH s)] h
      = .ok (((((List.range n).map fun k : Nat => D.int k).filter fun _ => true)).map fun d => match d with | .int i => .int (nS w s i.toNat) | _ => .non) h := by
    refine b0 (g := none) (I := fun σ => ∃ a, σ = [a, some w.enc, some (aH s)]) _ _ trivial ?_ ⟨_, rfl⟩
    rintro x hx σ ⟨a, rfl⟩
    obtain ⟨i, hi, rfl⟩ := List.mem_map.mp hx
    have hi := List.mem_range.mp hi
    exact ⟨_, rfl, ⟨_, rfl⟩, by simp, fun _ => ar (af rfl (cf rfl rfl)) (nT W F hi h)⟩
  have k2 : ((((List.range n).map fun k : Nat => D.int k).filter fun _ => true)).map (fun d => match d with | .int i => D.int (nS w s i.toNat) | _ => .non) = (vh w n s).map D.int := by
    rw [List.filter_eq_self.mpr (by simp), List.map_map, vh, List.map_map]; rfl
  rw [k2] at key
  have mq : cD [w.enc] h = .ok (.int n) h := W.t ▸ fW w h
  exact (b6 rfl rfl (bg (kH (dH (dD (ar (af rfl rfl) mq) W.sz) key)))).trans aG
end Fm
set_option linter.all false
namespace Fm
noncomputable def i5 : Fn := bE 2 4 (aE (sIf (tOr (cH (tE (dR .tuple (aa 1)))) (tE (aj oNe (dA (lOf (aa 1))) (fC (.int 3))))) (bb (fC (.bl false))) bn)
    (aE (aR (gN 2) (fAt (aa 1) (fC (.int 0))))
    (aE (aR (gN 3) (fAt (aa 1) (fC (.int 1))))
    (aE (sIf (tOr (cH (tE (au aZ (ad (aa 2) (ad (fC (.int 0)) (ad (aj sS (aa 0) (fC (.int 1))) ao)))))) (cH (tE (au aZ (ad (aa 3) (ad (fC (.int 0)) (ad (aj sS (aa 0) (fC (.int 1))) ao))))))) (bb (fC (.bl false))) bn)
    (bb (fT (fY (tE (aj oNe (aa 2) (aa 3))) (tE (au aZ (ad (fAt (aa 1) (fC (.int 2))) (ad (fC (.int 1)) (ad (fC (.int 400)) ao))))))))))))
noncomputable abbrev cT : SF := (aE (sIf (cH (tE (au i5 (ad (aa 0) (ad (aa 3) ao))))) iL bn)
    (aE (aR (gN 4) (fAt (aa 3) (fC (.int 0))))
    (aE (aR (gN 5) (fAt (aa 3) (fC (.int 1))))
    (aE (sIf (tE (aj Af (aa 5) (fAt (aa 2) (aa 4)))) iL bn)
    (aE (nG (fAt (aa 2) (aa 4)) (aa 5) (fAt (aa 3) (fC (.int 2))))
    (nG (fAt (aa 2) (aa 5)) (aa 4) (fAt (aa 3) (fC (.int 2)))))))))
noncomputable def cN : Fn := bE 2 6 (aE (sIf (cH (tE (dR .list (aa 1)))) iL bn)
    (aE (aR (gN 2) (cy (cg 1 [] (cq (aa 0)) (gN 0) [] iF)))
    (aE (jA (hJ (aa 1)) (gN 3) cT)
    (bb (aa 2)))))
noncomputable def dj : Fn := bE 2 2 (aE (sIf (tE (aj nj (aa 1) (fC .non))) iL bn)
    (aE (sIf (tOr (cH (tE (dR .list (aa 1)))) (tE (aj oNe (dA (lOf (aa 1))) (dA (lOf (aa 0)))))) iL bn)
    (aE (sIf (cH (tE (uN (cg 1 [] (hJ (aa 1)) (gN 0) [] (au bR (ad (aa 0) ao)))))) iL bn)
    (bb (dQ (lOf (aa 1)))))))
noncomputable def cO : Fn := bE 2 2 (aE (sIf (tE (aj nj (aa 1) (fC .non))) (bb (dQ (cg 1 [] (cq (aa 0)) (gN 0) [] (fC .non)))) bn)
    (aE (sIf (tOr (cH (tE (dR .list (aa 1)))) (tE (aj oNe (dA (lOf (aa 1))) (aa 0)))) iL bn)
    (aE (sIf (cH (tE (uN (cg 1 [] (hJ (aa 1)) (gN 0) [] (fT (tOr (tE (aj nj (aa 0) (fC .non))) (tE (au a0 (ad (aa 0) ao))))))))) iL bn)
    (bb (dQ (lOf (aa 1)))))))
noncomputable def gG : Fn := bE 4 6 (aE (sIf (cH (tE (au aZ (ad (aa 0) (ad (fC (.int 1)) (ad (fC (.int 30)) ao)))))) iL bn)
    (aE (aR (gN 4) (au cN (ad (aa 0) (ad (aa 1) ao))))
    (aE (aR (gN 5) (dQ (cg 1 [] (hJ (aa 4)) (gN 0) [] (dQ (j7 (aa 0))))))
    (bb (cj (ad (aa 5) (ad (au dj (ad (aa 4) (ad (aa 2) ao))) (ad (au cO (ad (aa 0) (ad (aa 3) ao))) ao))))))))
noncomputable def bL : Fn := bE 2 4 (aE (aR (gN 2) (fC (.int 0)))
    (aE (sIf (tE (aj oLt (aa 1) (dA (lOf (aa 0))))) (aR (gN 2) (fAt (aa 0) (aa 1))) bn)
    (aE (aR (gN 3) (fT (tOr (tE (aj oEq (dA (lOf (aa 0))) (fC (.int 0)))) (tE (aj oEq (aj cE (fAt (aa 0) (fC (.int 0))) (fC (.int 2))) (fC (.int 1)))))))
    (aE (sIf (tE (aa 3)) (aR (gN 2) (aj bJ (aj cE (aa 2) (fC (.int 2147483647))) (aj g9 (fC (.int 1000003)) (aa 1)))) bn)
    (bb (cy (ad (aa 2) (ad (fC (.int 0)) (ad (aa 3) ao)))))))))
noncomputable def aB : Fn := bE 2 4 (aE (nt (aa 0) (fC (.int 1)) (aj bJ (fAt (aa 0) (fC (.int 1))) (fC (.int 1))))
    (aE (sIf (tE (fAt (aa 0) (fC (.int 2)))) (aE (aR (gN 2) (aj cE (aj g9 (aj bJ (aj bJ (fAt (aa 0) (fC (.int 0))) (aj g9 (fC (.int 7919)) (fAt (aa 0) (fC (.int 1))))) (fC (.int 1))) (fC (.int 48271))) (fC (.int 2147483647))))
    (aE (aR (gN 2) (aj cE (aj g9 (aa 2) (aj bJ (aj cE (aa 2) (fC (.int 65521))) (fAt (aa 0) (fC (.int 1))))) (fC (.int 2147483629))))
    (bb (aj cE (aj cE (aj bJ (aj g9 (aa 2) (aa 2)) (aj g9 (fC (.int 69621)) (aa 2))) (fC (.int 2147483563))) (aa 1))))) bn)
    (aE (aR (gN 3) (aj cE (fAt (aa 0) (fC (.int 0))) (aa 1)))
    (aE (nt (aa 0) (fC (.int 0)) (aj eU (fAt (aa 0) (fC (.int 0))) (aa 1)))
    (bb (aa 3))))))
noncomputable def dI : Fn := bE 3 3 (aE (sIf (tE (aj oEq (aa 0) (fC (.int 0)))) (bb (aa 2)) bn)
    (aE (sIf (tE (aj oEq (aa 0) (fC (.int 1)))) (bb (aj sS (aa 1) (fC (.int 60)))) bn)
    (aE (sIf (tE (aj oEq (aa 0) (fC (.int 2)))) (bb (aj sS (aj bJ (aa 2) (aj cE (aa 1) (fC (.int 5)))) (fC (.int 2)))) bn)
    (aE (sIf (tE (aj oEq (aa 0) (fC (.int 3)))) (bb (aj g9 (fC (.int 2)) (aj cE (aa 1) (aj bJ (aa 2) (fC (.int 1)))))) bn)
    (bb (aj g9 (aj bJ (aj z7 (fC (.int 10)) (fC (.int 59))) (aa 1)) (fIx (ad (fC (.int 1)) (ad (fC (.int (-1))) ao)) (aj cE (aa 1) (fC (.int 2))))))))))
noncomputable abbrev fX : SF := (sIf (tE (aj oEq (au aB (ad (aa 9) (ad (aa 3) ao))) (fC (.int 0)))) (aE (aR (gN 11) (aj bJ (fC (.int 1)) (au aB (ad (aa 9) (ad (fIx (ad (fC (.int 3)) (ad (fC (.int 400)) ao)) (au aB (ad (aa 9) (ad (fC (.int 2)) ao)))) ao)))))
    (aE (dJ (Ag (aa 4) (au aB (ad (aa 9) (ad (aj bJ (dA (lOf (aa 4))) (fC (.int 1))) ao))) (fIx (ad (cj (ad (aa 8) (ad (aa 10) (ad (aa 11) ao)))) (ad (cj (ad (aa 10) (ad (aa 8) (ad (aa 11) ao)))) ao)) (aj cE (aa 11) (fC (.int 2))))))
    (aE (nt (aa 7) (aa 8) (aj bJ (fAt (aa 7) (aa 8)) (aa 11)))
    (nt (aa 7) (aa 10) (aj bJ (fAt (aa 7) (aa 10)) (aa 11)))))) bn)
noncomputable abbrev eN : SF := (aE (aR (gN 9) (au bL (ad (aa 0) (ad (aj bJ (fC (.int 1)) (aa 8)) ao))))
    (aE (dJ (mH (aa 6) (fIx (ad (fC .non) (ad (fC .non) (ad (fC .non) (ad (fC (.int 0)) (ad (fC (.int 1)) ao))))) (au aB (ad (aa 9) (ad (fC (.int 5)) ao))))))
    (aE (dJ (mH (aa 5) (cj (ad (au aB (ad (aa 9) (ad (fC (.int 5)) ao))) (ad (au aB (ad (aa 9) (ad (fC (.int 200)) ao))) ao)))))
    (jA (cq (aa 8)) (gN 10) fX))))
noncomputable def dM : Fn := bE 1 12 (aE (aR (gN 1) (au bL (ad (aa 0) (ad (fC (.int 0)) ao))))
    (aE (dJ (au aB (ad (aa 1) (ad (fC (.int 2)) ao))))
    (aE (aR (gN 2) (aj bJ (fC (.int 1)) (au aB (ad (aa 1) (ad (fIx (ad (fC (.int 6)) (ad (fC (.int 12)) (ad (fC (.int 30)) ao))) (au aB (ad (aa 1) (ad (fC (.int 3)) ao)))) ao)))))
    (aE (aR (gN 3) (fIx (ad (fC (.int 1)) (ad (fC (.int 2)) (ad (fC (.int 5)) ao))) (au aB (ad (aa 1) (ad (fC (.int 3)) ao)))))
    (aE (aR (gN 4) (cy ao))
    (aE (aR (gN 5) (cy ao))
    (aE (aR (gN 6) (cy ao))
    (aE (aR (gN 7) (cy (nH (ad (fC (.int 0)) ao) (aa 2))))
    (aE (jA (cq (aa 2)) (gN 8) eN)
    (aE (aR (gN 5) (cy (cg 1 [7, 5] (cq (aa 2)) (gN 0) [] (au dI (ad (fAt (fAt (aa 2) (aa 0)) (fC (.int 0))) (ad (fAt (fAt (aa 2) (aa 0)) (fC (.int 1))) (ad (fAt (aa 1) (aa 0)) ao)))))))
    (bb (cj (ad (aa 2) (ad (aa 4) (ad (aa 5) (ad (aa 6) (ad (aa 7) ao)))))))))))))))))
noncomputable abbrev ke : SF := (aE (aR (gN 6) (au aB (ad (aa 3) (ad (fC (.int 2)) ao))))
    (aE (sIf (tE (aj ee (aa 5) (fC .non))) (aR (gN 6) (aa 5)) bn)
    (dJ (mH (aa 4) (aa 6)))))
noncomputable def dm : Fn := bE 3 7 (aE (aR (gN 3) (au bL (ad (aa 0) (ad (aa 1) ao))))
    (aE (aR (gN 4) (cy ao))
    (aE (jA (hJ (aa 2)) (gN 5) ke)
    (bb (dQ (lOf (aa 4)))))))
end Fm
set_option linter.all false
namespace Fm
theorem aD {a b : SF} {σ σ' : Sd} {h h' : Hd} (e : a σ h = .nx σ' h') : aE a b σ h = b σ' h' := by simp [aE, e]
theorem EL {a b : SF} {σ : Sd} {h h' : Hd} {d : D} (e : a σ h = .rt d h') : aE a b σ h = .rt d h' := by simp [aE, e]
theorem zA {x : Int} (h0 : 0 ≤ x) (h1 : x < 4611686018427387904) : sml x = true := by
  simp only [sml, Bool.and_eq_true, decide_eq_true_eq]; omega
theorem mT {α : Type} {f : α → D} {l : List α} {i : Nat} (h : i < l.length) : atI (l.map f) (i : Int) = some (f l[i]) := cI (by simp [h])
theorem kL (ns : List Int) (k : Nat) (h : Hd) : ∃ c m, bL [.lit (ns.map .int), .int k] h = .ok (.ref h.length) (h ++ [.lst [.int c, .int 0, .bl m]]) := by
  have sm : sml 1000003 = true := by decide
  have z : ∀ b : Bool, (b = true ∨ b = false) := fun b => by cases b <;> simp
  obtain ⟨c, hc⟩ : ∃ c, c = if k < ns.length then ns.getD k 0 else 0 := ⟨_, rfl⟩
  have s1 : aR (gN 2) (fC (.int 0)) [some (.lit (ns.map .int)), some (.int k), none, none] h = .nx [some (.lit (ns.map .int)), some (.int k), some (.int 0), none] h := aJ rfl
  have s2 : sIf (tE (aj oLt (aa 1) (dA (lOf (aa 0))))) (aR (gN 2) (fAt (aa 0) (aa 1))) bn [some (.lit (ns.map .int)), some (.int k), some (.int 0), none] h = .nx [some (.lit (ns.map .int)), some (.int k), some (.int c), none] h := by
    by_cases e : k < ns.length
    · have a := mT (f := D.int) e
      rw [hc, if_pos e]
      refine (kb (aQ (am rfl (dh (cL rfl rfl)) (GZ (Int.ofNat_lt.mpr (by rw [List.length_map]; exact e)))))).trans (aJ (bq rfl rfl rfl ?_))
      rw [a, List.getD_eq_getElem?_getD, List.getElem?_eq_getElem e]; rfl
    · rw [hc, if_neg e]
      exact cF (aQ (am rfl (dh (cL rfl rfl)) (GY (fun z => e (by have := Int.ofNat_lt.mp z; rwa [List.length_map] at this)))))
  obtain ⟨m, s3⟩ : ∃ m, aR (gN 3) (fT (tOr (tE (aj oEq (dA (lOf (aa 0))) (fC (.int 0)))) (tE (aj oEq (aj cE (fAt (aa 0) (fC (.int 0))) (fC (.int 2))) (fC (.int 1)))))) [some (.lit (ns.map .int)), some (.int k), some (.int c), none] h = .nx [some (.lit (ns.map .int)), some (.int k), some (.int c), some (.bl m)] h := by
    by_cases e : ns.length = 0
    · exact ⟨true, aJ (iH (w9 (aQ (am (dh (cL rfl rfl)) rfl (xb (by rw [List.length_map, e]; rfl))))))⟩
    · have e0 : 0 < ns.length := Nat.pos_of_ne_zero e
      have a : atI (ns.map D.int) 0 = some (.int ns[0]) := mT (f := D.int) (i := 0) e0
      exact ⟨decide (ns[0] % 2 = 1), aJ (iH (fV (aQ (am (dh (cL rfl rfl)) rfl (nQ (fun z => e (by rw [List.length_map] at z; exact Int.ofNat.inj z))))) (aQ (am (am (bq rfl rfl rfl a) rfl (em (by decide))) rfl nO))))⟩
  obtain ⟨c', s4⟩ : ∃ c', sIf (tE (aa 3)) (aR (gN 2) (aj bJ (aj cE (aa 2) (fC (.int 2147483647))) (aj g9 (fC (.int 1000003)) (aa 1)))) bn [some (.lit (ns.map .int)), some (.int k), some (.int c), some (.bl m)] h = .nx [some (.lit (ns.map .int)), some (.int k), some (.int c'), some (.bl m)] h := by
    cases m with
    | true => exact ⟨c % 2147483647 + 1000003 * k, (kb (aQ rfl)).trans (aJ (am (am rfl rfl (em (by decide))) (am rfl rfl (jq sm)) rfl))⟩
    | false => exact ⟨c, cF (aQ rfl)⟩
  refine ⟨c', m, ?_⟩
  have st : ([D.lit (ns.map .int), D.int k].map some ++ List.replicate (4 - [D.lit (ns.map .int), D.int k].length) none : Sd) = [some (.lit (ns.map .int)), some (.int k), none, none] := rfl
  unfold bL bE runB
  rw [if_pos (show [D.lit (ns.map .int), D.int k].length = 2 from rfl), st, aD s1, aD s2, aD s3, aD s4]
  simp [SZ]
theorem i6 {h : Hd} {n : Nat} {c t m : Int} {b : Bool} (hn : h[n]? = some (.lst [.int c, .int t, .bl b])) (hm : 0 < m) (hm2 : m < 2 ^ 250) :
    ∃ v c' t', aB [.ref n, .int m] h = .ok (.int v) (h.set n (.lst [.int c', .int t', .bl b])) ∧ 0 ≤ v ∧ v < m := by
  have hl : n < h.length := (List.getElem?_eq_some_iff.mp hn).1
  obtain ⟨h1, hh1⟩ : ∃ h1, h1 = h.set n (.lst [.int c, .int (t + 1), .bl b]) := ⟨_, rfl⟩
  have g1 : h1[n]? = some (.lst [.int c, .int (t + 1), .bl b]) := by rw [hh1, List.getElem?_set_self hl]
  have s1 : nt (aa 0) (fC (.int 1)) (aj bJ (fAt (aa 0) (fC (.int 1))) (fC (.int 1))) [some (.ref n), some (.int m), none, none] h = .nx [some (.ref n), some (.int m), none, none] h1 := by
    rw [hh1]; exact tM (k := 1) (am (bq rfl rfl (bP hn) rfl) rfl rfl) rfl rfl hn rfl
  have pu : ∀ (v : Int) (g : Hd), (∀ j, j < h.length → ∃ cc, g[j]? = some cc ∧ (h[j]? = some cc ∨ iR cc = true)) → g.length = h.length → letGo h (.ok (.int v) g) = .ok (.int v) g := fun v g hg hgl => by
    have := Aq (h := h) (h' := g) (g := []) (d := .int v) rfl hgl (by
      intro j cc hj e
      obtain ⟨c2, e1, e2⟩ := hg j hj
      rw [List.append_nil, e1] at e
      cases e
      exact e2)
    simpa using this
  have st : ([D.ref n, D.int m].map some ++ List.replicate (4 - [D.ref n, D.int m].length) none : Sd) = [some (.ref n), some (.int m), none, none] := rfl
  have cp : ∀ (x y : Int), iR (.lst [.int x, .int y, .bl b]) = true := fun x y => rfl
  have pl : ∀ (x y : Int), ∀ j, j < h.length → ∃ cc, (h.set n (.lst [.int x, .int y, .bl b]))[j]? = some cc ∧ (h[j]? = some cc ∨ iR cc = true) := fun x y j hj => by
    by_cases e : n = j
    · subst e; exact ⟨_, by rw [List.getElem?_set_self hl], .inr (cp x y)⟩
    · exact ⟨h[j], by rw [List.getElem?_set_ne e]; simp [hj], .inl (by simp [hj])⟩
  cases b with
  | true =>
    have sm1 : sml 7919 = true := by decide
    have sm2 : sml 48271 = true := by decide
    have sm3 : sml 69621 = true := by decide
    obtain ⟨n1, hn1⟩ : ∃ n1, n1 = (c + 7919 * (t + 1) + 1) * 48271 % 2147483647 := ⟨_, rfl⟩
    have b1 : 0 ≤ n1 ∧ n1 < 2147483647 := by rw [hn1]; exact ⟨Int.emod_nonneg _ (by decide), Int.emod_lt_of_pos _ (by decide)⟩
    have sm4 : sml n1 = true := zA b1.1 (Int.lt_trans b1.2 (by decide))
    obtain ⟨n2, hn2⟩ : ∃ n2, n2 = n1 * (n1 % 65521 + (t + 1)) % 2147483629 := ⟨_, rfl⟩
    have b2 : 0 ≤ n2 ∧ n2 < 2147483629 := by rw [hn2]; exact ⟨Int.emod_nonneg _ (by decide), Int.emod_lt_of_pos _ (by decide)⟩
    have sm5 : sml n2 = true := zA b2.1 (Int.lt_trans b2.2 (by decide))
    have t1 : aR (gN 2) (aj cE (aj g9 (aj bJ (aj bJ (fAt (aa 0) (fC (.int 0))) (aj g9 (fC (.int 7919)) (fAt (aa 0) (fC (.int 1))))) (fC (.int 1))) (fC (.int 48271))) (fC (.int 2147483647))) [some (.ref n), some (.int m), none, none] h1 = .nx [some (.ref n), some (.int m), some (.int n1), none] h1 := by
      rw [hn1]; exact aJ (am (am (am (am (bq rfl rfl (bP g1) rfl) (am rfl (bq rfl rfl (bP g1) rfl) (jq sm1)) rfl) rfl rfl) rfl (EJ sm2)) rfl (em (by decide)))
    have t2 : aR (gN 2) (aj cE (aj g9 (aa 2) (aj bJ (aj cE (aa 2) (fC (.int 65521))) (fAt (aa 0) (fC (.int 1))))) (fC (.int 2147483629))) [some (.ref n), some (.int m), some (.int n1), none] h1 = .nx [some (.ref n), some (.int m), some (.int n2), none] h1 := by
      rw [hn2]; exact aJ (am (am rfl (am (am rfl rfl (em (by decide))) (bq rfl rfl (bP g1) rfl) rfl) (jq sm4)) rfl (em (by decide)))
    have t3 : bb (aj cE (aj cE (aj bJ (aj g9 (aa 2) (aa 2)) (aj g9 (fC (.int 69621)) (aa 2))) (fC (.int 2147483563))) (aa 1)) [some (.ref n), some (.int m), some (.int n2), none] h1 = .rt (.int ((n2 * n2 + 69621 * n2) % 2147483563 % m)) h1 := by
      exact bg (am (am (am (am rfl rfl (jq sm5)) (am rfl rfl (jq sm3)) rfl) rfl (em (by decide))) rfl (em hm))
    refine ⟨(n2 * n2 + 69621 * n2) % 2147483563 % m, c, t + 1, ?_, Int.emod_nonneg _ (Int.ne_of_gt hm), Int.emod_lt_of_pos _ hm⟩
    have tt : tE (fAt (aa 0) (fC (.int 2))) [some (.ref n), some (.int m), none, none] h1 = .ok true h1 := aQ (bq rfl rfl (bP g1) rfl)
    unfold aB bE runB
    rw [if_pos (show [D.ref n, D.int m].length = 2 from rfl), st, aD s1]
    rw [EL (d := .int ((n2 * n2 + 69621 * n2) % 2147483563 % m)) (h' := h1)]
    · show letGo h (.ok _ h1) = _
      rw [hh1]
      exact pu _ _ (pl _ _) (by simp)
    · exact (kb tt).trans ((aD t1).trans ((aD t2).trans t3))
  | false =>
    have tt : tE (fAt (aa 0) (fC (.int 2))) [some (.ref n), some (.int m), none, none] h1 = .ok false h1 := aQ (bq rfl rfl (bP g1) rfl)
    refine ⟨c % m, c / m, t + 1, ?_, Int.emod_nonneg _ (Int.ne_of_gt hm), Int.emod_lt_of_pos _ hm⟩
    have t0 : ∀ x : SF, sIf (tE (fAt (aa 0) (fC (.int 2)))) x bn [some (.ref n), some (.int m), none, none] h1 = .nx [some (.ref n), some (.int m), none, none] h1 := fun x => cF tt
    have t1 : aR (gN 3) (aj cE (fAt (aa 0) (fC (.int 0))) (aa 1)) [some (.ref n), some (.int m), none, none] h1 = .nx [some (.ref n), some (.int m), none, some (.int (c % m))] h1 := aJ (am (bq rfl rfl (bP g1) rfl) rfl (em hm))
    have t2 : nt (aa 0) (fC (.int 0)) (aj eU (fAt (aa 0) (fC (.int 0))) (aa 1)) [some (.ref n), some (.int m), none, some (.int (c % m))] h1 = .nx [some (.ref n), some (.int m), none, some (.int (c % m))] (h.set n (.lst [.int (c / m), .int (t + 1), .bl false])) := by
      have : h1.set n (.lst [.int (c / m), .int (t + 1), .bl false]) = h.set n (.lst [.int (c / m), .int (t + 1), .bl false]) := by rw [hh1, List.set_set]
      rw [← this]
      exact tM (k := 0) (am (bq rfl rfl (bP g1) rfl) rfl (nP hm hm2)) rfl rfl g1 rfl
    have t3 : bb (aa 3) [some (.ref n), some (.int m), none, some (.int (c % m))] (h.set n (.lst [.int (c / m), .int (t + 1), .bl false])) = .rt (.int (c % m)) (h.set n (.lst [.int (c / m), .int (t + 1), .bl false])) := bg rfl
    unfold aB bE runB
    rw [if_pos (show [D.ref n, D.int m].length = 2 from rfl), st, aD s1, aD (t0 _), aD t1, aD t2, t3]
    exact pu _ _ (pl _ _) (by simp)
end Fm
set_option linter.all false
namespace Fm
theorem gH {n i : Nat} {x : D} (hx : ((List.range n).map fun k : Nat => D.int k)[i]? = some x) : i < n ∧ x = .int (i : Nat) := by
  have hi : i < n := by
    have := (List.getElem?_eq_some_iff.mp hx).1
    simpa using this
  exact ⟨hi, by simpa [hi, List.getElem?_eq_getElem] using hx.symm⟩
theorem rM {α : Type} (f : α → D) (l : List α) {x : Int} (h0 : 0 ≤ x) (h : x < l.length) : ∃ v ∈ l, atI (l.map f) x = some (f v) := by
  have h3 : x.toNat < l.length := by omega
  refine ⟨l[x.toNat], List.getElem_mem h3, ?_⟩
  have := mT (f := f) h3
  rwa [show ((x.toNat : Nat) : Int) = x by omega] at this
theorem G8 (k x t : Int) (ht : 0 ≤ t) (h : Hd) : ∃ v, dI [.int k, .int x, .int t] h = .ok (.int v) h := by
  by_cases e0 : k = 0
  · exact ⟨t, by simp [dI, bE, runB, e0, peq, dep]⟩
  · by_cases e1 : k = 1
    · exact ⟨x - 60, by simp [dI, bE, runB, e0, e1, peq, dep]⟩
    · by_cases e2 : k = 2
      · exact ⟨t + x % 5 - 2, by simp [dI, bE, runB, e0, e1, e2, peq, dep]⟩
      · by_cases e3 : k = 3
        · have s2 : sml 2 = true := by decide
          have p1 : 0 < t + 1 := by omega
          exact ⟨2 * (x % (t + 1)), by simp [dI, bE, runB, e0, e1, e2, e3, peq, dep, s2, p1]⟩
        · obtain ⟨v, hv, q⟩ := rM D.int [1, -1] (x := x % 2) (Int.emod_nonneg _ (by omega)) (by have := Int.emod_lt_of_pos x (show (0 : Int) < 2 by omega); simpa using this)
          have q : atI [D.int 1, .int (-1)] (x % 2) = some (.int v) := q
          have s10 : sml 10 = true := by decide
          have sv : sml v = true := by simp at hv; rcases hv with e | e <;> subst e <;> decide
          exact ⟨_, by simp [dI, bE, runB, e0, e1, e2, e3, peq, dep, s10, q, sv]; rfl⟩
structure Tie where
  a : Nat
  b : Nat
  w : Int
def cP (t : Tie) : D := .tup [.int t.a, .int t.b, .int t.w]
def far (i : Nat) (t : Tie) : Option Nat := if t.a = i then some t.b else if t.b = i then some t.a else none
def wOf (i : Nat) (t : Tie) : Int := if t.a = i ∨ t.b = i then t.w else 0
def bX (T : List Tie) (i : Nat) : Int := (T.map (wOf i)).sum
def IG (one other : Nat) (t : Tie) : Prop := (t.a < one ∧ t.b < one) ∨ (t.a = one ∧ t.b < other) ∨ (t.b = one ∧ t.a < other)
def ij (s t : Tie) : Prop := ¬ (s.a = t.a ∧ s.b = t.b) ∧ ¬ (s.a = t.b ∧ s.b = t.a)
structure TOk (n one other : Nat) (T : List Tie) : Prop where
  ne : ∀ t ∈ T, t.a ≠ t.b
  lt : ∀ t ∈ T, t.a < n ∧ t.b < n
  wt : ∀ t ∈ T, 1 ≤ t.w ∧ t.w ≤ 400
  be : ∀ t ∈ T, IG one other t
  un : T.Pairwise ij
  len : T.length ≤ 30 * one + other
theorem ij.symm {s t : Tie} (h : ij s t) : ij t s := ⟨fun z => h.1 ⟨z.1.symm, z.2.symm⟩, fun z => h.2 ⟨z.2.symm, z.1.symm⟩⟩
theorem TOk.skip {n one other : Nat} {T : List Tie} (o : TOk n one other T) : TOk n one (other + 1) T :=
  ⟨o.ne, o.lt, o.wt, fun t ht => by
    rcases o.be t ht with h | h | h
    · exact .inl h
    · exact .inr (.inl ⟨h.1, Nat.lt_succ_of_lt h.2⟩)
    · exact .inr (.inr ⟨h.1, Nat.lt_succ_of_lt h.2⟩), o.un, Nat.le_succ_of_le o.len⟩
theorem TOk.step {n one : Nat} {T : List Tie} (o : TOk n one one T) (h : one < n) (hn : n ≤ 30) : TOk n (one + 1) 0 T :=
  ⟨o.ne, o.lt, o.wt, fun t ht => by
    rcases o.be t ht with h | h | h
    · exact .inl ⟨Nat.lt_succ_of_lt h.1, Nat.lt_succ_of_lt h.2⟩
    · exact .inl ⟨Nat.lt_succ_of_le (Nat.le_of_eq h.1), Nat.lt_succ_of_lt h.2⟩
    · exact .inl ⟨Nat.lt_succ_of_lt h.2, Nat.lt_succ_of_le (Nat.le_of_eq h.1)⟩, o.un, Nat.le_trans o.len (Nat.add_le_add_left (Nat.le_trans (Nat.le_of_lt h) hn) _)⟩
theorem mU {α : Type} {x y : α} {l : List α} {k : Nat} (h : y ∈ l.take k ++ [x] ++ l.drop k) : y = x ∨ y ∈ l := by
  simp only [List.append_assoc, List.mem_append, List.mem_singleton] at h
  rcases h with h | h | h
  · exact .inr (List.mem_of_mem_take h)
  · exact .inl h
  · exact .inr (List.mem_of_mem_drop h)
theorem C1 {α : Type} {R : α → α → Prop} (sym : ∀ a b, R a b → R b a) {x : α} {l : List α} (k : Nat) (h : l.Pairwise R) (hx : ∀ y ∈ l, R x y) : (l.take k ++ [x] ++ l.drop k).Pairwise R := by
  have hl : (l.take k ++ l.drop k).Pairwise R := by rw [List.take_append_drop]; exact h
  rw [List.pairwise_append] at hl
  obtain ⟨h1, h2, h3⟩ := hl
  rw [List.append_assoc, List.pairwise_append]
  refine ⟨h1, ?_, fun a ha b hb => ?_⟩
  · rw [List.singleton_append, List.pairwise_cons]
    exact ⟨fun y hy => hx y (List.mem_of_mem_drop hy), h2⟩
  · rcases List.mem_append.mp hb with hb | hb
    · simp at hb; subst hb; exact sym _ _ (hx a (List.mem_of_mem_take ha))
    · exact h3 a ha b hb
theorem At (T : List Tie) (x : Tie) (k i : Nat) : bX (T.take k ++ [x] ++ T.drop k) i = bX T i + wOf i x := by
  have : bX T i = bX (T.take k) i + bX (T.drop k) i := by
    unfold bX
    rw [← List.sum_append, ← List.map_append, List.take_append_drop]
  rw [this]
  simp only [bX, List.map_append, List.sum_append, List.map_cons, List.map_nil, List.sum_cons, List.sum_nil]
  omega
theorem TOk.put {n one other : Nat} {T : List Tie} (o : TOk n one other T) (h1 : one < n) (h2 : other < one) {w : Int} (w1 : 1 ≤ w) (w2 : w ≤ 400) {t : Tie} (ht : t = ⟨one, other, w⟩ ∨ t = ⟨other, one, w⟩) (k : Nat) : TOk n one (other + 1) (T.take k ++ [t] ++ T.drop k) where
  ne := fun s hs => by
    rcases mU hs with rfl | hs
    · rcases ht with e | e <;> subst e
      · exact Nat.ne_of_gt h2
      · exact Nat.ne_of_lt h2
    · exact o.ne s hs
  lt := fun s hs => by
    rcases mU hs with rfl | hs
    · rcases ht with e | e <;> subst e
      · exact ⟨h1, Nat.lt_trans h2 h1⟩
      · exact ⟨Nat.lt_trans h2 h1, h1⟩
    · exact o.lt s hs
  wt := fun s hs => by
    rcases mU hs with rfl | hs
    · rcases ht with e | e <;> subst e <;> exact ⟨w1, w2⟩
    · exact o.wt s hs
  be := fun s hs => by
    rcases mU hs with rfl | hs
    · rcases ht with e | e <;> subst e
      · exact .inr (.inl ⟨rfl, Nat.lt_succ_self _⟩)
      · exact .inr (.inr ⟨rfl, Nat.lt_succ_self _⟩)
    · exact o.skip.be s hs
  un := C1 (fun _ _ => ij.symm) k o.un fun s hs => by
    have hb := o.be s hs
    rcases ht with e | e <;> subst e <;> rcases hb with hb | hb | hb
    · exact ⟨fun z => Nat.ne_of_gt hb.1 z.1, fun z => Nat.ne_of_gt hb.2 z.1⟩
    · exact ⟨fun z => Nat.ne_of_gt hb.2 z.2, fun z => Nat.ne_of_gt (Nat.lt_trans hb.2 h2) z.1⟩
    · exact ⟨fun z => Nat.ne_of_gt (Nat.lt_trans hb.2 h2) z.1, fun z => Nat.ne_of_gt hb.2 z.2⟩
    · exact ⟨fun z => Nat.ne_of_gt hb.2 z.2, fun z => Nat.ne_of_gt hb.1 z.2⟩
    · exact ⟨fun z => Nat.ne_of_gt (Nat.lt_trans hb.2 h2) z.2, fun z => Nat.ne_of_gt hb.2 z.1⟩
    · exact ⟨fun z => Nat.ne_of_gt hb.2 z.1, fun z => Nat.ne_of_gt (Nat.lt_trans hb.2 h2) z.2⟩
  len := by
    have e : (T.take k).length + (T.drop k).length = T.length := by rw [← List.length_append, List.take_append_drop]
    rw [List.length_append, List.length_append, List.length_singleton, Nat.add_right_comm, e]
    exact Nat.succ_le_succ o.len
end Fm
set_option linter.all false
namespace Fm
def xi (p : Int × Int) : D := .tup [.int p.1, .int p.2]
theorem Au {n one i : Nat} (h1 : one < n) (h2 : i < one) {T : List Tie} {tt : Tie} {w : Int} (ht : tt = ⟨one, i, w⟩ ∨ tt = ⟨i, one, w⟩) (k : Nat) :
    (List.range n).map (bX (T.take k ++ [tt] ++ T.drop k)) = (((List.range n).map (bX T)).set one (bX T one + w)).set i (bX T i + w) := by
  apply List.ext_getElem?
  intro j
  have wj : wOf j tt = if j = one ∨ j = i then w else 0 := by
    rcases ht with e | e <;> subst e <;> simp only [wOf]
    · by_cases a : one = j <;> by_cases b : i = j <;> simp [a, b, eq_comm] <;> omega
    · by_cases a : one = j <;> by_cases b : i = j <;> simp [a, b, eq_comm] <;> omega
  by_cases hj : j < n
  · rw [List.getElem?_map, List.getElem?_range hj, Option.map_some, At, wj]
    by_cases e1 : i = j
    · subst e1
      rw [List.getElem?_set_self (by simp; omega)]
      simp
    · rw [List.getElem?_set_ne e1]
      by_cases e2 : one = j
      · subst e2
        rw [List.getElem?_set_self (by simp; omega)]
        simp
      · rw [List.getElem?_set_ne e2, List.getElem?_map, List.getElem?_range hj]
        have : ¬ (j = one ∨ j = i) := by omega
        simp [this]
  · rw [List.getElem?_eq_none (by simp; omega), List.getElem?_eq_none (by simp; omega)]
structure PH (n i : Nat) (T : List Tie) (bs : List (Int × Int)) (ss : List (Option Int)) (h : Hd) : Prop where
  ti : h[1]? = some (.lst (T.map cP))
  ba : h[2]? = some (.lst (bs.map xi))
  st : h[3]? = some (.lst (ss.map bO))
  to : h[4]? = some (.lst (((List.range n).map (bX T)).map .int))
  len : h.length = 5 + i
  lb : bs.length = i
  ls : ss.length = i
  os : ∀ x ∈ ss, x = none ∨ x = some 0 ∨ x = some 1
theorem ne5 {j : Nat} (k : Nat) (h : j < 5) : 5 + k ≠ j := by omega
theorem PH.keep {n i k : Nat} {T : List Tie} {bs : List (Int × Int)} {ss : List (Option Int)} {g : Hd} (P : PH n i T bs ss g) (cc : gv) : PH n i T bs ss (g.set (5 + k) cc) :=
  ⟨(List.getElem?_set_ne (ne5 k (by decide))).trans P.ti, (List.getElem?_set_ne (ne5 k (by decide))).trans P.ba, (List.getElem?_set_ne (ne5 k (by decide))).trans P.st, (List.getElem?_set_ne (ne5 k (by decide))).trans P.to, by rw [List.length_set]; exact P.len, P.lb, P.ls, P.os⟩
theorem dk {h : Hd} {n : Nat} {c t m : Int} {b : Bool} (hn : h[n]? = some (.lst [.int c, .int t, .bl b])) (hm : 0 < m) (hm2 : m ≤ 100000) :
    ∃ v c' t', aB [.ref n, .int m] h = .ok (.int v) (h.set n (.lst [.int c', .int t', .bl b])) ∧ 0 ≤ v ∧ v < m := i6 hn hm (Int.lt_of_le_of_lt hm2 (by decide))
theorem en {g : Hd} {k : Nat} {c : gv} (cc : gv) (h : g[k]? = some c) : (g.set k cc)[k]? = some cc := List.getElem?_set_self (List.getElem?_eq_some_iff.mp h).1
theorem zB {j n : Nat} (h : j < n) : ixN n (j : Int) = some j := by simp [ixN, h]
noncomputable abbrev XP (lit : D) (hd : Option D) (n thin one : Nat) (a b : Option D) : Sd := [some lit, hd, some (.int n), some (.int thin), some (.ref 1), some (.ref 2), some (.ref 3), some (.ref 4), some (.int one), some (.ref (5 + one)), a, b]
abbrev SC (c t : Int) (b : Bool) : gv := .lst [.int c, .int t, .bl b]
inductive PI (lit : D) (hd : Option D) (n thin one : Nat) (bs : List (Int × Int)) (ss : List (Option Int)) (m : Bool) : Nat → Sd → Hd → Prop
  | mk {i : Nat} {h : Hd} {T : List Tie} {a b : Option D} {c t : Int} (P : PH n (one + 1) T bs ss h) (O : TOk n one i T) (hs : h[5 + one]? = some (SC c t m)) : PI lit hd n thin one bs ss m i (XP lit hd n thin one a b) h
theorem Jt {w v mo : Int} (hw : w = 1 + v) (h0 : 0 ≤ v) (h1 : v < mo) (h2 : mo ≤ 400) : 1 ≤ w ∧ w ≤ 400 := by omega
theorem few {l one n i : Nat} (h : l ≤ 30 * one + i) (h1 : one < n) (hn : n ≤ 30) (hi : i < one) : l < 1000 := by omega
theorem Ju {l : Nat} (h : l < 1000) : (l : Int) + 1 ≤ 100000 := by omega
theorem xj {n one i thin : Nat} {lit : D} (h1 : one < n) (hn : n ≤ 30) (hi : i < one) {T : List Tie} {bs : List (Int × Int)} {ss : List (Option Int)} {h0 : Hd} {hd b : Option D} {c c1 t t1 : Int} {m : Bool} (P : PH n (one + 1) T bs ss h0) (O : TOk n one i T) (hs : h0[5 + one]? = some (SC c t m))
    (d1 : aB [.ref (5 + one), .int thin] h0 = .ok (.int 0) (h0.set (5 + one) (SC c1 t1 m))) :
    ∃ σ' h', fX (XP lit hd n thin one (some (.int i)) b) h0 = .nx σ' h' ∧ PI lit hd n thin one bs ss m (i + 1) σ' h' := by
  have g1 := en (SC c1 t1 m) hs
  obtain ⟨v2, c2, t2, d2, v20, v21⟩ := dk (m := 2) g1 (by decide) (by decide)
  rw [List.set_set] at d2
  have g2 := en (SC c2 t2 m) hs
  obtain ⟨mo, hmo, pm⟩ := rM D.int [3, 400] v20 v21
  have pm : atI [D.int 3, .int 400] v2 = some (.int mo) := pm
  have mo1 : 0 < mo ∧ mo ≤ 400 := by
    rcases List.mem_cons.mp hmo with rfl | hmo
    · decide
    · rw [List.mem_singleton.mp hmo]; decide
  obtain ⟨v3, c3, t3, d3, v30, v31⟩ := dk (m := mo) g2 mo1.1 (Int.le_trans mo1.2 (by decide))
  rw [List.set_set] at d3
  have g3 := en (SC c3 t3 m) hs
  obtain ⟨w, hw⟩ : ∃ w, w = 1 + v3 := ⟨_, rfl⟩
  have w12 : 1 ≤ w ∧ w ≤ 400 := Jt hw v30 v31 mo1.2
  have lT : T.length < 1000 := few O.len h1 hn hi
  obtain ⟨v4, c4, t4, d4, v40, v41⟩ := dk (m := ((T.map cP).length : Int) + 1) g3 (Int.lt_add_one_of_le (Int.natCast_nonneg _)) (Ju (by rw [List.length_map]; exact lT))
  rw [List.set_set] at d4
  obtain ⟨h4, hh4⟩ : ∃ h4, h4 = h0.set (5 + one) (SC c4 t4 m) := ⟨_, rfl⟩
  have P4 := P.keep (k := one) (SC c4 t4 m)
  have g4 := en (SC c4 t4 m) hs
  rw [← hh4] at d4 P4 g4
  obtain ⟨tt, htt, pt⟩ : ∃ tt : Tie, (tt = ⟨one, i, w⟩ ∨ tt = ⟨i, one, w⟩) ∧ atI [D.tup [.int one, .int i, .int w], .tup [.int i, .int one, .int w]] (w % 2) = some (cP tt) := by
    obtain ⟨tt, h1, h2⟩ := rM cP [⟨one, i, w⟩, ⟨i, one, w⟩] (x := w % 2) (Int.emod_nonneg _ (by decide)) (Int.emod_lt_of_pos w (by decide))
    exact ⟨tt, (List.mem_cons.mp h1).imp id List.mem_singleton.mp, h2⟩
  obtain ⟨T2, hT2⟩ : ∃ T2, T2 = T.take v4.toNat ++ [tt] ++ T.drop v4.toNat := ⟨_, rfl⟩
  have O2 : TOk n one (i + 1) T2 := by rw [hT2]; exact O.put h1 hi w12.1 w12.2 htt _
  have s1 : aR (gN 11) (aj bJ (fC (.int 1)) (au aB (ad (aa 9) (ad (fIx (ad (fC (.int 3)) (ad (fC (.int 400)) ao)) (au aB (ad (aa 9) (ad (fC (.int 2)) ao)))) ao)))) (XP lit hd n thin one (some (.int i)) b) (h0.set (5 + one) (SC c1 t1 m))
      = .nx (XP lit hd n thin one (some (.int i)) (some (.int w))) (h0.set (5 + one) (SC c3 t3 m)) :=
    hw ▸ aJ (am rfl (ar (af rfl (af (nN (af rfl (af rfl rfl)) (ar (af rfl (af rfl rfl)) d2) pm) rfl)) d3) rfl)
  have t5 : h4[4]? = some (.lst (((List.range n).map (bX T)).map .int)) := P4.to
  have s2 : dJ (Ag (aa 4) (au aB (ad (aa 9) (ad (aj bJ (dA (lOf (aa 4))) (fC (.int 1))) ao))) (fIx (ad (cj (ad (aa 8) (ad (aa 10) (ad (aa 11) ao)))) (ad (cj (ad (aa 10) (ad (aa 8) (ad (aa 11) ao)))) ao)) (aj cE (aa 11) (fC (.int 2))))) (XP lit hd n thin one (some (.int i)) (some (.int w))) (h0.set (5 + one) (SC c3 t3 m))
      = .nx (XP lit hd n thin one (some (.int i)) (some (.int w))) (h4.set 1 (.lst (T2.map cP))) := by
    have P3 := P.keep (k := one) (SC c3 t3 m)
    rw [hT2, List.map_append, List.map_append, List.map_take, List.map_drop]
    exact fH (G0 rfl P3.ti (ar (af rfl (af (am (dh (cL rfl (bP P3.ti))) rfl rfl) rfl)) d4) (nN (af (fG (af rfl (af rfl (af rfl rfl))) (by exact of_decide_eq_true rfl)) (af (fG (af rfl (af rfl (af rfl rfl))) (by exact of_decide_eq_true rfl)) rfl)) (am rfl rfl (em (by decide))) pt) P4.ti ⟨v40, Int.le_of_lt_add_one v41, by rw [List.length_map]; exact Nat.lt_trans lT (by decide)⟩)
  have t5 : (h4.set 1 (.lst (T2.map cP)))[4]? = some (.lst (((List.range n).map (bX T)).map .int)) := (List.getElem?_set_ne (by decide)).trans P4.to
  have ln : ((List.range n).map (bX T)).length = n := by rw [List.length_map, List.length_range]
  have s3 : nt (aa 7) (aa 8) (aj bJ (fAt (aa 7) (aa 8)) (aa 11)) (XP lit hd n thin one (some (.int i)) (some (.int w))) (h4.set 1 (.lst (T2.map cP)))
      = .nx (XP lit hd n thin one (some (.int i)) (some (.int w))) ((h4.set 1 (.lst (T2.map cP))).set 4 (.lst ((((List.range n).map (bX T)).set one (bX T one + w)).map .int))) := by
    rw [List.map_set]
    exact tM (am (bq rfl rfl (bP t5) (cI (by rw [List.getElem?_map, List.getElem?_map, List.getElem?_range h1]; rfl))) rfl rfl) rfl rfl t5 (zB (by rw [List.length_map, ln]; exact h1))
  have t6 := en (.lst ((((List.range n).map (bX T)).set one (bX T one + w)).map .int)) t5
  have s4 : nt (aa 7) (aa 10) (aj bJ (fAt (aa 7) (aa 10)) (aa 11)) (XP lit hd n thin one (some (.int i)) (some (.int w))) ((h4.set 1 (.lst (T2.map cP))).set 4 (.lst ((((List.range n).map (bX T)).set one (bX T one + w)).map .int)))
      = .nx (XP lit hd n thin one (some (.int i)) (some (.int w))) ((h4.set 1 (.lst (T2.map cP))).set 4 (.lst (((List.range n).map (bX T2)).map .int))) := by
    refine (tM (am (bq rfl rfl (bP t6) (cI (by rw [List.getElem?_map, List.getElem?_set_ne (Nat.ne_of_gt hi), List.getElem?_map, List.getElem?_range (Nat.lt_trans hi h1)]; rfl))) rfl rfl) rfl rfl t6 (zB (by rw [List.length_map, List.length_set, ln]; exact Nat.lt_trans hi h1))).trans ?_
    rw [List.set_set, hT2, Au h1 hi htt, List.map_set, List.map_set, List.map_set]
  have ne : ∀ {k : Nat}, 1 ≠ k → 4 ≠ k → ((h4.set 1 (.lst (T2.map cP))).set 4 (.lst (((List.range n).map (bX T2)).map .int)))[k]? = h4[k]? := fun a b => (List.getElem?_set_ne b).trans (List.getElem?_set_ne a)
  exact ⟨_, _, (kb (aQ (am (ar (af rfl (af rfl rfl)) d1) rfl rfl))).trans ((aD s1).trans ((aD s2).trans ((aD s3).trans s4))), .mk ⟨(List.getElem?_set_ne (by decide)).trans (en _ P4.ti), (ne (by decide) (by decide)).trans P4.ba, (ne (by decide) (by decide)).trans P4.st, en _ t5, by rw [List.length_set, List.length_set]; exact P4.len, P.lb, P.ls, P.os⟩ O2 ((ne (ne5 one (by decide)).symm (ne5 one (by decide)).symm).trans g4)⟩
theorem tP {n one thin : Nat} {lit : D} (h1 : one < n) (hn : n ≤ 30) (ht : 1 ≤ thin ∧ thin ≤ 5) {T : List Tie} {bs : List (Int × Int)} {ss : List (Option Int)} {h : Hd} {hd a b : Option D} {c t : Int} {m : Bool} (P : PH n (one + 1) T bs ss h) (O : TOk n one 0 T) (hs : h[5 + one]? = some (SC c t m)) :
    ∃ σ' h', eA none ((List.range one).map fun k : Nat => D.int k) (gN 10) fX ((List.range one).map fun k : Nat => D.int k) (XP lit hd n thin one a b) h = .nx σ' h' ∧ PI lit hd n thin one bs ss m one σ' h' := by
  have z := ff (P := PI lit hd n thin one bs ss m)
    (g := none) (k := 0) (all := (List.range one).map fun k : Nat => D.int k) (fun _ _ _ _ => trivial) (xs := (List.range one).map fun k : Nat => D.int k) (tg := gN 10) (b := fX)
    (σ := XP lit hd n thin one a b) (h := h) (by
      intro i x σ h0 hx z
      obtain ⟨hi, rfl⟩ := gH hx
      rw [Nat.zero_add] at z ⊢
      obtain ⟨P, O, hs⟩ := z
      refine ⟨_, rfl, ?_⟩
      obtain ⟨v1, c1, t1, d1, -, -⟩ := dk (m := thin) hs (Int.natCast_pos.mpr ht.1) (Int.le_trans (Int.ofNat_le.mpr ht.2) (by decide))
      by_cases e : v1 = 0
      · rw [e] at d1
        exact xj h1 hn hi P O hs d1
      · exact ⟨_, _, cF (aQ (am (ar (af rfl (af rfl rfl)) d1) rfl (nQ e))), .mk (P.keep _) O.skip (en _ hs)⟩) (.mk P O hs)
  rwa [Nat.zero_add, List.length_map, List.length_range] at z
end Fm
set_option linter.all false
namespace Fm
noncomputable abbrev XQ (lit : D) (hd : Option D) (n thin : Nat) (a b c d : Option D) : Sd := [some lit, hd, some (.int n), some (.int thin), some (.ref 1), some (.ref 2), some (.ref 3), some (.ref 4), a, b, c, d]
theorem EM {u : Option Int} (h : u ∈ [none, none, none, some 0, some 1]) : u = none ∨ u = some 0 ∨ u = some 1 := by
  simp at h; exact h
inductive PO (ns : List Int) (hd : Option D) (n thin : Nat) : Nat → Sd → Hd → Prop
  | mk {i : Nat} {h : Hd} {a b c d : Option D} {T : List Tie} {bs : List (Int × Int)} {ss : List (Option Int)} (P : PH n i T bs ss h) (O : TOk n i 0 T) : PO ns hd n thin i (XQ (.lit (ns.map .int)) hd n thin a b c d) h
theorem vk {n i thin : Nat} {ns : List Int} {hd b c d : Option D} (hi : i < n) (hn : n ≤ 30) (ht : 1 ≤ thin ∧ thin ≤ 5) {T : List Tie} {bs : List (Int × Int)} {ss : List (Option Int)} {h0 : Hd} (P : PH n i T bs ss h0) (O : TOk n i 0 T) :
    ∃ σ' h', eN (XQ (.lit (ns.map .int)) hd n thin (some (.int i)) b c d) h0 = .nx σ' h' ∧ PO ns hd n thin (i + 1) σ' h' := by
  obtain ⟨c0, m, q0⟩ := kL ns (1 + i) h0
  rw [P.len] at q0
  obtain ⟨h1, hh1⟩ : ∃ h1, h1 = h0 ++ [SC c0 0 m] := ⟨_, rfl⟩
  have g1 : h1[5 + i]? = some (SC c0 0 m) := by rw [hh1, ← P.len]; exact List.getElem?_concat_length
  have L1 : h1.length = 5 + i + 1 := by rw [hh1, List.length_append, P.len]; rfl
  have old : ∀ {j : Nat} {cc : gv}, h0[j]? = some cc → h1[j]? = some cc := fun e => by rw [hh1]; exact fI _ e
  have s1 : aR (gN 9) (au bL (ad (aa 0) (ad (aj bJ (fC (.int 1)) (aa 8)) ao))) (XQ (.lit (ns.map .int)) hd n thin (some (.int i)) b c d) h0
      = .nx (XQ (.lit (ns.map .int)) hd n thin (some (.int i)) (some (.ref (5 + i))) c d) h1 := by
    rw [hh1]; exact aJ (ar (af rfl (af rfl rfl)) q0)
  obtain ⟨v1, c1, t1, d1, v10, v11⟩ := dk (m := 5) g1 (by decide) (by decide)
  obtain ⟨u, hu, pu⟩ := rM bO [none, none, none, some 0, some 1] v10 v11
  have pu : atI [D.non, .non, .non, .int 0, .int 1] v1 = some (bO u) := pu
  have lss : (ss.map bO).length < SZ := by rw [List.length_map, P.ls]; exact Nat.lt_trans hi (Nat.lt_of_le_of_lt hn (by decide))
  have lbs : (bs.map xi).length < SZ := by rw [List.length_map, P.lb]; exact Nat.lt_trans hi (Nat.lt_of_le_of_lt hn (by decide))
  have a2 : (h1.set (5 + i) (SC c1 t1 m))[3]? = some (.lst (ss.map bO)) := (List.getElem?_set_ne (ne5 i (by decide))).trans (old P.st)
  obtain ⟨h2, hh2⟩ : ∃ h2, h2 = (h1.set (5 + i) (SC c1 t1 m)).set 3 (.lst (ss.map bO ++ [bO u])) := ⟨_, rfl⟩
  have s2 : dJ (mH (aa 6) (fIx (ad (fC .non) (ad (fC .non) (ad (fC .non) (ad (fC (.int 0)) (ad (fC (.int 1)) ao))))) (au aB (ad (aa 9) (ad (fC (.int 5)) ao))))) (XQ (.lit (ns.map .int)) hd n thin (some (.int i)) (some (.ref (5 + i))) c d) h1
      = .nx (XQ (.lit (ns.map .int)) hd n thin (some (.int i)) (some (.ref (5 + i))) c d) h2 := by
    rw [hh2]; exact fH (xa rfl (old P.st) (nN (af rfl (af rfl (af rfl (af rfl (af rfl rfl))))) (ar (af rfl (af rfl rfl)) d1) pu) a2 lss)
  have g2 : h2[5 + i]? = some (SC c1 t1 m) := by rw [hh2]; exact (List.getElem?_set_ne (ne5 i (by decide)).symm).trans (en _ g1)
  obtain ⟨v2, c2, t2, d2, v20, v21⟩ := dk (m := 5) g2 (by decide) (by decide)
  obtain ⟨v3, c3, t3, d3, v30, v31⟩ := dk (m := 200) (en (SC c2 t2 m) g2) (by decide) (by decide)
  rw [List.set_set] at d3
  have ne2 : ∀ {j : Nat} {cc : gv}, j < 5 → 3 ≠ j → h1[j]? = some cc → h2[j]? = some cc := fun a b e => by rw [hh2]; exact (List.getElem?_set_ne b).trans ((List.getElem?_set_ne (ne5 i a)).trans e)
  have a3 : (h2.set (5 + i) (SC c3 t3 m))[2]? = some (.lst (bs.map xi)) := (List.getElem?_set_ne (ne5 i (by decide))).trans (ne2 (by decide) (by decide) (old P.ba))
  obtain ⟨h4, hh4⟩ : ∃ h4, h4 = (h2.set (5 + i) (SC c3 t3 m)).set 2 (.lst (bs.map xi ++ [xi (v2, v3)])) := ⟨_, rfl⟩
  have s3 : dJ (mH (aa 5) (cj (ad (au aB (ad (aa 9) (ad (fC (.int 5)) ao))) (ad (au aB (ad (aa 9) (ad (fC (.int 200)) ao))) ao)))) (XQ (.lit (ns.map .int)) hd n thin (some (.int i)) (some (.ref (5 + i))) c d) h2
      = .nx (XQ (.lit (ns.map .int)) hd n thin (some (.int i)) (some (.ref (5 + i))) c d) h4 := by
    rw [hh4]; exact fH (xa rfl (ne2 (by decide) (by decide) (old P.ba)) (fG (af (ar (af rfl (af rfl rfl)) d2) (af (ar (af rfl (af rfl rfl)) d3) rfl)) (by exact of_decide_eq_true rfl)) a3 lbs)
  have ne4 : ∀ {j : Nat} {cc : gv}, j < 5 → 2 ≠ j → h2[j]? = some cc → h4[j]? = some cc := fun a b e => by rw [hh4]; exact (List.getElem?_set_ne b).trans ((List.getElem?_set_ne (ne5 i a)).trans e)
  have P4 : PH n (i + 1) T (bs ++ [(v2, v3)]) (ss ++ [u]) h4 := by
    refine ⟨ne4 (by decide) (by decide) (ne2 (by decide) (by decide) (old P.ti)), ?_, ?_, ne4 (by decide) (by decide) (ne2 (by decide) (by decide) (old P.to)), ?_, by rw [List.length_append, P.lb]; rfl, by rw [List.length_append, P.ls]; rfl, fun y hy => ?_⟩
    · rw [hh4, List.map_append]; exact en _ a3
    · refine ne4 (by decide) (by decide) ?_
      rw [hh2, List.map_append]; exact en _ a2
    · rw [hh4, List.length_set, List.length_set, hh2, List.length_set, List.length_set, L1]; rfl
    · rcases List.mem_append.mp hy with hy | hy
      · exact P.os y hy
      · rw [List.mem_singleton.mp hy]
        exact EM hu
  have g4 : h4[5 + i]? = some (SC c3 t3 m) := by rw [hh4]; exact (List.getElem?_set_ne (ne5 i (by decide)).symm).trans (en _ g2)
  obtain ⟨_, h5, q1, ⟨q2, q3, -⟩⟩ := tP (lit := .lit (ns.map .int)) (hd := hd) (a := c) (b := d) hi hn ht P4 O g4
  exact ⟨_, h5, (aD s1).trans ((aD s2).trans ((aD s3).trans (i4 (dD rfl (Nat.le_trans (Nat.le_of_lt hi) (Nat.le_trans hn (by decide)))) q1))), .mk q2 (q3.step hi hn)⟩
theorem tQ {n thin : Nat} {ns : List Int} {hd : Option D} (hn : n ≤ 30) (ht : 1 ≤ thin ∧ thin ≤ 5) {h : Hd} (P : PH n 0 [] [] [] h) :
    ∃ σ' h', eA none ((List.range n).map fun k : Nat => D.int k) (gN 8) eN ((List.range n).map fun k : Nat => D.int k)
      (XQ (.lit (ns.map .int)) hd n thin none none none none) h = .nx σ' h' ∧ PO ns hd n thin n σ' h' := by
  have z := ff (P := PO ns hd n thin)
    (g := none) (k := 0) (all := (List.range n).map fun k : Nat => D.int k) (fun _ _ _ _ => trivial) (xs := (List.range n).map fun k : Nat => D.int k) (tg := gN 8) (b := eN)
    (σ := XQ (.lit (ns.map .int)) hd n thin none none none none) (h := h) (by
      intro i x σ h0 hx z
      obtain ⟨hi, rfl⟩ := gH hx
      rw [Nat.zero_add] at z ⊢
      obtain ⟨P, O⟩ := z
      exact ⟨_, rfl, vk hi hn ht P O⟩) (.mk P ⟨by simp, by simp, by simp, by simp, .nil, by simp⟩)
  rwa [Nat.zero_add, List.length_map, List.length_range] at z
theorem Jv {v mo : Int} (h0 : 0 ≤ v) (h1 : v < mo) (h2 : mo ≤ 30) : ∃ n : Nat, (n : Int) = 1 + v ∧ 1 ≤ n ∧ n ≤ 30 := ⟨(1 + v).toNat, by omega⟩
theorem FH (n : Nat) : (List.replicate n [D.int 0]).flatten = ((List.range n).map (bX [])).map D.int := by
  have l1 : (List.replicate n [D.int 0]).flatten = List.replicate n (D.int 0) := by
    induction n with
    | zero => rfl
    | succ n ih => rw [List.replicate_succ, List.replicate_succ, List.flatten_cons, ih]; rfl
  rw [l1]
  apply List.ext_getElem?
  intro i
  by_cases hi : i < n <;> simp [hi, bX]
theorem vm (i : Nat) : ∀ l : List Tie, (∀ t ∈ l, 1 ≤ t.w ∧ t.w ≤ 400) → 0 ≤ bX l i
  | [], _ => Int.le_refl _
  | t :: l, hl => by
    have h2 := vm i l fun s hs => hl s (List.mem_cons_of_mem _ hs)
    refine Int.add_nonneg ?_ h2
    unfold wOf
    split
    · exact Int.le_trans (by decide) (hl t List.mem_cons_self).1
    · exact Int.le_refl _
theorem zC : ∀ ds : List D, (∀ d ∈ ds, ∃ v : Int, d = .int v) → ∃ bs : List Int, ds = bs.map D.int
  | [], _ => ⟨[], rfl⟩
  | d :: ds, h => by
    obtain ⟨v, hv⟩ := h d List.mem_cons_self
    obtain ⟨bs, hb⟩ := zC ds fun x hx => h x (List.mem_cons_of_mem _ hx)
    exact ⟨v :: bs, by rw [hv, hb]; rfl⟩
structure G9 (ns : List Int) (n : Nat) (T : List Tie) (bs : List Int) (ss : List (Option Int)) (h : Hd) : Prop where
  run : dM [.lit (ns.map .int)] [] = .ok (.tup [.int n, .ref 1, .ref (5 + n), .ref 3, .ref 4]) h
  n1 : 1 ≤ n
  n30 : n ≤ 30
  ok : TOk n n 0 T
  ti : h[1]? = some (.lst (T.map cP))
  ba : h[5 + n]? = some (.lst (bs.map .int))
  st : h[3]? = some (.lst (ss.map bO))
  to : h[4]? = some (.lst (((List.range n).map (bX T)).map .int))
  len : h.length = 6 + n
  lb : bs.length = n
  ls : ss.length = n
  os : ∀ x ∈ ss, x = none ∨ x = some 0 ∨ x = some 1
theorem Av (ns : List Int) : ∃ n T bs ss h, G9 ns n T bs ss h := by
  obtain ⟨c0, m, q0⟩ := kL ns 0 []
  have q0 : bL [.lit (ns.map .int), .int 0] [] = .ok (.ref 0) [.lst [.int c0, .int 0, .bl m]] := q0
  obtain ⟨v1, c1, t1, d1, -, -⟩ := dk (h := [SC c0 0 m]) (n := 0) (m := 2) rfl (by decide) (by decide)
  obtain ⟨v2, c2, t2, d2, v20, v21⟩ := dk (h := [SC c1 t1 m]) (n := 0) (m := 3) rfl (by decide) (by decide)
  obtain ⟨mo, hmo, pm⟩ := rM D.int [6, 12, 30] v20 v21
  have pm : atI [D.int 6, .int 12, .int 30] v2 = some (.int mo) := pm
  have mo1 : 0 < mo ∧ mo ≤ 30 := by simp at hmo; rcases hmo with rfl | rfl | rfl <;> decide
  obtain ⟨v3, c3, t3, d3, v30, v31⟩ := dk (h := [SC c2 t2 m]) (n := 0) (m := mo) rfl mo1.1 (Int.le_trans mo1.2 (by decide))
  obtain ⟨v4, c4, t4, d4, v40, v41⟩ := dk (h := [SC c3 t3 m]) (n := 0) (m := 3) rfl (by decide) (by decide)
  obtain ⟨th, hth, pth⟩ := rM D.int [1, 2, 5] v40 v41
  have pth : atI [D.int 1, .int 2, .int 5] v4 = some (.int th) := pth
  obtain ⟨thin, hthin, th1⟩ : ∃ thin : Nat, (thin : Int) = th ∧ 1 ≤ thin ∧ thin ≤ 5 := by
    simp at hth
    rcases hth with rfl | rfl | rfl
    · exact ⟨1, rfl, by decide⟩
    · exact ⟨2, rfl, by decide⟩
    · exact ⟨5, rfl, by decide⟩
  obtain ⟨n, hn, n1, n30⟩ := Jv v30 v31 mo1.2
  obtain ⟨h8, hh8⟩ : ∃ h8 : Hd, h8 = [.lst [.int c4, .int t4, .bl m], .lst [], .lst [], .lst [], .lst (((List.range n).map (bX [])).map .int)] := ⟨_, rfl⟩
  have P0 : PH n 0 [] [] [] h8 := ⟨by rw [hh8]; rfl, by rw [hh8]; rfl, by rw [hh8]; rfl, by rw [hh8]; rfl, by rw [hh8]; rfl, rfl, rfl, by simp⟩
  obtain ⟨_, h9, k9, @⟨_, a, b, c, d, T, bp, ss, P9, O9⟩⟩ := tQ (ns := ns) (hd := some (.ref 0)) n30 th1 P0
  have tn : ∀ i, 0 ≤ bX T i := fun i => vm i T O9.wt
  obtain ⟨ds, h10, k10, l10, v10, σ10, q10, hh10⟩ := ka (g := none) (all := (List.range n).map fun k : Nat => D.int k) (tg := gN 0) (xs := (List.range n).map fun k : Nat => D.int k) (k := 0)
    (e := au dI (ad (fAt (fAt (aa 2) (aa 0)) (fC (.int 0))) (ad (fAt (fAt (aa 2) (aa 0)) (fC (.int 1))) (ad (fAt (aa 1) (aa 0)) ao)))) (σ := [none, some (.ref 4), some (.ref 2)]) (h := h9)
    (P := fun i σ h => (∃ a, σ = [a, some (.ref 4), some (.ref 2)]) ∧ h = h9) (V := fun i d => ∃ v : Int, d = .int v) (fun _ _ _ _ => trivial) (by
      rintro i x σ h0 hx ⟨⟨a, rfl⟩, rfl⟩
      obtain ⟨hi, rfl⟩ := gH hx
      have hb : i < bp.length := by rw [P9.lb]; exact hi
      have e1 : atI (bp.map xi) (i : Int) = some (xi bp[i]) := mT hb
      have e2 : atI (((List.range n).map (bX T)).map D.int) (i : Int) = some (.int (bX T i)) := cI (by rw [List.getElem?_map, List.getElem?_map, List.getElem?_range hi]; rfl)
      obtain ⟨v, hv⟩ := G8 bp[i].1 bp[i].2 (bX T i) (tn i) h0
      refine ⟨_, rfl, .int v, h0, ?_, ⟨v, rfl⟩, ⟨_, rfl⟩, rfl⟩
      exact ar (af (bq (bq rfl rfl (bP P9.ba) e1) rfl rfl rfl) (af (bq (bq rfl rfl (bP P9.ba) e1) rfl rfl rfl) (af (bq rfl rfl (bP P9.to) e2) rfl))) hv) ⟨⟨_, rfl⟩, rfl⟩
  subst hh10
  simp only [List.length_map, List.length_range] at l10
  obtain ⟨bs, hbs⟩ := zC ds fun d hd => by obtain ⟨i, hi⟩ := List.getElem?_of_mem hd; exact v10 i d hi
  subst hbs
  simp only [List.length_map] at l10
  have L9 := P9.len
  refine ⟨n, T, bs, ss, h10 ++ [.lst (bs.map .int)], ?_, n1, n30, O9, ?_, ?_, ?_, ?_, by rw [List.length_append, L9]; exact Nat.add_right_comm 5 n 1, l10, P9.ls, P9.os⟩
  · have s1 : aR (gN 1) (au bL (ad (aa 0) (ad (fC (.int 0)) ao))) [some (.lit (ns.map .int)), none, none, none, none, none, none, none, none, none, none, none] [] = .nx [some (.lit (ns.map .int)), some (.ref 0), none, none, none, none, none, none, none, none, none, none] [.lst [.int c0, .int 0, .bl m]] := aJ (ar (af rfl (af rfl rfl)) q0)
    have s2 : dJ (au aB (ad (aa 1) (ad (fC (.int 2)) ao))) [some (.lit (ns.map .int)), some (.ref 0), none, none, none, none, none, none, none, none, none, none] [.lst [.int c0, .int 0, .bl m]] = .nx [some (.lit (ns.map .int)), some (.ref 0), none, none, none, none, none, none, none, none, none, none] [.lst [.int c1, .int t1, .bl m]] := fH (ar (af rfl (af rfl rfl)) d1)
    have s3 : aR (gN 2) (aj bJ (fC (.int 1)) (au aB (ad (aa 1) (ad (fIx (ad (fC (.int 6)) (ad (fC (.int 12)) (ad (fC (.int 30)) ao))) (au aB (ad (aa 1) (ad (fC (.int 3)) ao)))) ao)))) [some (.lit (ns.map .int)), some (.ref 0), none, none, none, none, none, none, none, none, none, none] [.lst [.int c1, .int t1, .bl m]] = .nx [some (.lit (ns.map .int)), some (.ref 0), some (.int n), none, none, none, none, none, none, none, none, none] [.lst [.int c3, .int t3, .bl m]] := by
      rw [hn]; exact aJ (am rfl (ar (af rfl (af (nN (af rfl (af rfl (af rfl rfl))) (ar (af rfl (af rfl rfl)) d2) pm) rfl)) d3) rfl)
    have s4 : aR (gN 3) (fIx (ad (fC (.int 1)) (ad (fC (.int 2)) (ad (fC (.int 5)) ao))) (au aB (ad (aa 1) (ad (fC (.int 3)) ao)))) [some (.lit (ns.map .int)), some (.ref 0), some (.int n), none, none, none, none, none, none, none, none, none] [.lst [.int c3, .int t3, .bl m]] = .nx [some (.lit (ns.map .int)), some (.ref 0), some (.int n), some (.int thin), none, none, none, none, none, none, none, none] [.lst [.int c4, .int t4, .bl m]] := by
      rw [hthin]; exact aJ (nN (af rfl (af rfl (af rfl rfl))) (ar (af rfl (af rfl rfl)) d4) pth)
    have s5 : aR (gN 4) (cy ao) [some (.lit (ns.map .int)), some (.ref 0), some (.int n), some (.int thin), none, none, none, none, none, none, none, none] [.lst [.int c4, .int t4, .bl m]] = .nx [some (.lit (ns.map .int)), some (.ref 0), some (.int n), some (.int thin), some (.ref 1), none, none, none, none, none, none, none] [.lst [.int c4, .int t4, .bl m], .lst []] := rfl
    have s6 : aR (gN 5) (cy ao) [some (.lit (ns.map .int)), some (.ref 0), some (.int n), some (.int thin), some (.ref 1), none, none, none, none, none, none, none] [.lst [.int c4, .int t4, .bl m], .lst []] = .nx [some (.lit (ns.map .int)), some (.ref 0), some (.int n), some (.int thin), some (.ref 1), some (.ref 2), none, none, none, none, none, none] [.lst [.int c4, .int t4, .bl m], .lst [], .lst []] := rfl
    have s7 : aR (gN 6) (cy ao) [some (.lit (ns.map .int)), some (.ref 0), some (.int n), some (.int thin), some (.ref 1), some (.ref 2), none, none, none, none, none, none] [.lst [.int c4, .int t4, .bl m], .lst [], .lst []] = .nx [some (.lit (ns.map .int)), some (.ref 0), some (.int n), some (.int thin), some (.ref 1), some (.ref 2), some (.ref 3), none, none, none, none, none] [.lst [.int c4, .int t4, .bl m], .lst [], .lst [], .lst []] := rfl
    have s8 : aR (gN 7) (cy (nH (ad (fC (.int 0)) ao) (aa 2))) [some (.lit (ns.map .int)), some (.ref 0), some (.int n), some (.int thin), some (.ref 1), some (.ref 2), some (.ref 3), none, none, none, none, none] [.lst [.int c4, .int t4, .bl m], .lst [], .lst [], .lst []] = .nx [some (.lit (ns.map .int)), some (.ref 0), some (.int n), some (.int thin), some (.ref 1), some (.ref 2), some (.ref 3), some (.ref 4), none, none, none, none] h8 := by
      rw [hh8, ← FH n]
      have rp : nH (ad (fC (.int 0)) ao) (aa 2) (XQ (.lit (ns.map .int)) (some (.ref 0)) n thin none none none none |>.set 7 none) [SC c4 t4 m, .lst [], .lst [], .lst []] = .ok (List.replicate n [D.int 0]).flatten [SC c4 t4 m, .lst [], .lst [], .lst []] := CW (l := [.int 0]) rfl rfl ⟨Int.natCast_nonneg n, Int.le_trans (Int.ofNat_le.mpr n30) (by decide), by rw [Int.toNat_natCast]; exact Nat.le_trans (Nat.le_of_eq (Nat.one_mul n)) (Nat.le_trans n30 (by decide))⟩
      exact aJ (lD rp (by rw [FH, List.length_map, List.length_map, List.length_range]; exact Nat.le_trans n30 (by decide)))
    have s9 : jA (cq (aa 2)) (gN 8) eN [some (.lit (ns.map .int)), some (.ref 0), some (.int n), some (.int thin), some (.ref 1), some (.ref 2), some (.ref 3), some (.ref 4), none, none, none, none] h8 = .nx [some (.lit (ns.map .int)), some (.ref 0), some (.int n), some (.int thin), some (.ref 1), some (.ref 2), some (.ref 3), some (.ref 4), a, b, c, d] h10 := i4 (dD rfl (Nat.le_trans n30 (by decide))) k9
    have s10 : aR (gN 5) (cy (cg 1 [7, 5] (cq (aa 2)) (gN 0) [] (au dI (ad (fAt (fAt (aa 2) (aa 0)) (fC (.int 0))) (ad (fAt (fAt (aa 2) (aa 0)) (fC (.int 1))) (ad (fAt (aa 1) (aa 0)) ao)))))) [some (.lit (ns.map .int)), some (.ref 0), some (.int n), some (.int thin), some (.ref 1), some (.ref 2), some (.ref 3), some (.ref 4), a, b, c, d] h10 = .nx [some (.lit (ns.map .int)), some (.ref 0), some (.int n), some (.int thin), some (.ref 1), some (.ref (5 + n)), some (.ref 3), some (.ref 4), a, b, c, d] (h10 ++ [.lst (bs.map .int)]) := by
      rw [← L9]
      exact aJ (lD (dH (dD rfl (Nat.le_trans n30 (by decide))) k10) (by rw [List.length_map, l10]; exact Nat.le_trans n30 (by decide)))
    have s11 : bb (cj (ad (aa 2) (ad (aa 4) (ad (aa 5) (ad (aa 6) (ad (aa 7) ao)))))) [some (.lit (ns.map .int)), some (.ref 0), some (.int n), some (.int thin), some (.ref 1), some (.ref (5 + n)), some (.ref 3), some (.ref 4), a, b, c, d] (h10 ++ [.lst (bs.map .int)]) = .rt (.tup [.int n, .ref 1, .ref (5 + n), .ref 3, .ref 4]) (h10 ++ [.lst (bs.map .int)]) := bg (fG (af rfl (af rfl (af rfl (af rfl (af rfl rfl))))) (by exact of_decide_eq_true rfl))
    have st : ([D.lit (ns.map .int)].map some ++ List.replicate (12 - [D.lit (ns.map .int)].length) none : Sd) = [some (.lit (ns.map .int)), none, none, none, none, none, none, none, none, none, none, none] := rfl
    unfold dM bE runB
    rw [if_pos (show [D.lit (ns.map .int)].length = 1 from rfl), st, aD s1, aD s2, aD s3, aD s4, aD s5, aD s6, aD s7, aD s8, aD s9, aD s10, s11]
    simp [letGo, pure?, fQ]
  · exact fI _ P9.ti
  · rw [← L9]; exact List.getElem?_concat_length
  · exact fI _ P9.st
  · exact fI _ P9.to
end Fm
set_option linter.all false
namespace Fm
theorem dZ {α : Type} {f : α → D} : ∀ {l : List α}, (∀ x ∈ l, pure? (f x) = true) → fQ (l.map f) = true
  | [], _ => rfl
  | x :: l, h => by
    simp only [List.map_cons, fQ, Bool.and_eq_true]
    exact ⟨h x (by simp), dZ fun y hy => h y (by simp [hy])⟩
theorem C2 (w : Web) : pure? w.enc = true := by
  have h1 : ∀ r : List (Nat × Int), pure? (mJ r) = true := fun r => by
    unfold mJ
    simp only [pure?]
    exact dZ fun p _ => rfl
  have h2 : fQ (w.ties.map mJ) = true := dZ fun r _ => h1 r
  have h3 : fQ (w.bars.map D.int) = true := dZ fun r _ => rfl
  have h4 : fQ (w.stays.map bO) = true := dZ fun r _ => by cases r <;> rfl
  unfold Web.enc
  simp only [pure?, fQ, h2, h3, h4]
  rfl
def nU (p : Nat × Int) : List Int := [(p.1 : Int), p.2]
def xk (x : Nat × Int) : List (Nat × Int) → List (Nat × Int)
  | [] => [x]
  | y :: r => if bV (nU x) (nU y) = true then x :: y :: r else y :: xk x r
def iI : List (Nat × Int) → List (Nat × Int)
  | [] => []
  | x :: r => xk x (iI r)
theorem vn (x : Nat × Int) : ∀ r, (xk x r).map nU = tD (nU x) (r.map nU)
  | [] => rfl
  | y :: r => by
    simp only [xk, tD, List.map_cons]
    split
    · rfl
    · simp [vn x r]
theorem rN : ∀ r, (iI r).map nU = cC (r.map nU)
  | [] => rfl
  | x :: r => by simp only [iI, cC, List.map_cons, vn, rN r]
theorem vq {x p : Nat × Int} : ∀ {r}, p ∈ xk x r ↔ p = x ∨ p ∈ r
  | [] => by simp [xk]
  | y :: r => by
    simp only [xk]
    split
    · simp
    · simp only [List.mem_cons, vq (r := r)]
      constructor
      · rintro (h | h | h)
        · exact .inr (.inl h)
        · exact .inl h
        · exact .inr (.inr h)
      · rintro (h | h | h)
        · exact .inr (.inl h)
        · exact .inl h
        · exact .inr (.inr h)
theorem rP {p : Nat × Int} : ∀ {r}, p ∈ iI r ↔ p ∈ r
  | [] => by simp [iI]
  | x :: r => by simp only [iI, vq, rP (r := r), List.mem_cons]
def nbs (T : List Tie) (i : Nat) : List (Nat × Int) := T.filterMap fun t => (far i t).map fun j => (j, t.w)
def mK (p : Nat × Int) : Int × D := ((p.1 : Int), .int p.2)
theorem C3 (T : List Tie) (t : Tie) (i : Nat) : nbs (T ++ [t]) i = nbs T i ++ (match far i t with | some j => [(j, t.w)] | none => []) := by
  unfold nbs
  rw [List.filterMap_append]
  congr 1
  cases e : far i t <;> simp [e]
theorem Aw {l : List (Nat × Int)} {k : Nat} (h : ∀ p ∈ l, p.1 ≠ k) : nF (l.map mK) k = none := by
  unfold nF
  rw [List.find?_eq_none.mpr]
  · rfl
  · intro x hx
    obtain ⟨p, hp, rfl⟩ := List.mem_map.mp hx
    have hne := h p hp
    have : ¬ ((p.1 : Int) = (k : Int)) := fun z => hne (by omega)
    show ¬ (decide ((p.1 : Int) = (k : Int)) = true)
    rw [decide_eq_true_eq]
    exact this
theorem vt {l : List (Nat × Int)} {k : Nat} {v : Int} (h : ∀ p ∈ l, p.1 ≠ k) : wT (l.map mK) k (.int v) = (l ++ [(k, v)]).map mK := by
  unfold wT
  rw [if_neg]
  · simp [mK]
  · simp only [List.any_eq_true, List.mem_map, decide_eq_true_eq]
    rintro ⟨x, ⟨p, hp, rfl⟩, e⟩
    have hne := h p hp
    have e : (p.1 : Int) = (k : Int) := e
    exact hne (by omega)
theorem vv {i j : Nat} {t : Tie} (h : far i t = some j) : (t.a = i ∧ t.b = j) ∨ (t.b = i ∧ t.a = j) := by
  unfold far at h
  by_cases a : t.a = i
  · rw [if_pos a] at h; exact .inl ⟨a, Option.some.inj h⟩
  · rw [if_neg a] at h
    by_cases b : t.b = i
    · rw [if_pos b] at h; exact .inr ⟨b, Option.some.inj h⟩
    · rw [if_neg b] at h; cases h
theorem xl {T : List Tie} {t : Tie} {i j : Nat} (hf : far i t = some j) (un : ∀ s ∈ T, ij s t) : ∀ p ∈ nbs T i, p.1 ≠ j := fun p hp e => by
  obtain ⟨s, hs, q⟩ := List.mem_filterMap.mp hp
  obtain ⟨k, hk, rfl⟩ := Option.map_eq_some_iff.mp q
  have u := un s hs
  rw [show k = j from e] at hk
  rcases vv hf with ⟨a1, a2⟩ | ⟨a1, a2⟩ <;> rcases vv hk with ⟨b1, b2⟩ | ⟨b1, b2⟩
  · exact u.1 ⟨b1.trans a1.symm, b2.trans a2.symm⟩
  · exact u.2 ⟨b2.trans a2.symm, b1.trans a1.symm⟩
  · exact u.2 ⟨b1.trans a1.symm, b2.trans a2.symm⟩
  · exact u.1 ⟨b2.trans a2.symm, b1.trans a1.symm⟩
theorem Ax {n : Nat} {t : Tie} (h1 : t.a ≠ t.b) (h2 : t.a < n) (h3 : t.b < n) (h4 : 1 ≤ t.w ∧ t.w ≤ 400) (h : Hd) : i5 [.int n, cP t] h = .ok (.bl true) h := by
  have e1 : (t.a : Int) ≤ n - 1 := Int.le_sub_one_of_lt (Int.ofNat_lt.mpr h2)
  have e2 : (t.b : Int) ≤ n - 1 := Int.le_sub_one_of_lt (Int.ofNat_lt.mpr h3)
  have e3 : ¬ (t.a : Int) = t.b := fun z => h1 (Int.ofNat.inj z)
  have bt : ∀ {i a b : Int}, a ≤ i → i ≤ b → aZ [.int i, .int a, .int b] h = .ok (.bl true) h := fun x y => by rw [fJ, decide_eq_true x, decide_eq_true y]; rfl
  have s1 : sIf (tOr (cH (tE (dR .tuple (aa 1)))) (tE (aj oNe (dA (lOf (aa 1))) (fC (.int 3))))) (bb (fC (.bl false))) bn [some (.int n), some (cP t), none, none] h = .nx [some (.int n), some (cP t), none, none] h := cF (fV (bT (b := true) (aQ rfl)) (aQ (am (dh (cL rfl rfl)) rfl rfl)))
  have s4 : sIf (tOr (cH (tE (au aZ (ad (aa 2) (ad (fC (.int 0)) (ad (aj sS (aa 0) (fC (.int 1))) ao)))))) (cH (tE (au aZ (ad (aa 3) (ad (fC (.int 0)) (ad (aj sS (aa 0) (fC (.int 1))) ao))))))) (bb (fC (.bl false))) bn [some (.int n), some (cP t), some (.int t.a), some (.int t.b)] h = .nx [some (.int n), some (cP t), some (.int t.a), some (.int t.b)] h := cF (fV (bT (b := true) (aQ (ar (af rfl (af rfl (af (am rfl rfl rfl) rfl))) (bt (Int.natCast_nonneg _) e1)))) (bT (b := true) (aQ (ar (af rfl (af rfl (af (am rfl rfl rfl) rfl))) (bt (Int.natCast_nonneg _) e2)))))
  have s5 : bb (fT (fY (tE (aj oNe (aa 2) (aa 3))) (tE (au aZ (ad (fAt (aa 1) (fC (.int 2))) (ad (fC (.int 1)) (ad (fC (.int 400)) ao))))))) [some (.int n), some (cP t), some (.int t.a), some (.int t.b)] h = .rt (.bl true) h := bg (iH (eP (aQ (am rfl rfl (by rw [kc, decide_eq_false e3]; rfl))) (aQ (ar (af (bq rfl rfl rfl rfl) (af rfl (af rfl rfl))) (bt h4.1 h4.2)))))
  exact (b6 rfl rfl ((aM s1).trans ((aM (aJ (bq rfl rfl rfl rfl))).trans ((aM (aJ (bq rfl rfl rfl rfl))).trans ((aM s4).trans s5))))).trans aG
structure NH (n A : Nat) (h0 : Hd) (T : List Tie) (h : Hd) : Prop where
  pre : ∃ g, h = h0 ++ g ∧ g.length = n + 1
  dc : ∀ j, j < n → h[A + j]? = some (.dct ((nbs T j).map mK))
  rf : h[A + n]? = some (.lst ((List.range n).map fun i => .ref (A + i)))
theorem NH.put {n A : Nat} {h0 : Hd} {T : List Tie} {h : Hd} (hA : A = h0.length) (N : NH n A h0 T h) {j : Nat} (hj : j < n) (c : gv) : (∃ g, h.set (A + j) c = h0 ++ g ∧ g.length = n + 1) ∧ (h.set (A + j) c)[A + j]? = some c ∧ (∀ k, k ≠ j → (h.set (A + j) c)[A + k]? = h[A + k]?) := by
  obtain ⟨g, e, l⟩ := N.pre
  have lt := (List.getElem?_eq_some_iff.mp (N.dc j hj)).1
  exact ⟨⟨g.set j c, by rw [e, mQ hA], by rw [List.length_set]; exact l⟩, List.getElem?_set_self lt, fun k hk => List.getElem?_set_ne fun z => hk (Nat.add_left_cancel z).symm⟩
def SNx (a b : SF) : Prop := ∀ {σ h σ' h'}, a σ h = .nx σ' h' → b σ h = .nx σ' h'
theorem SNx.refl {a : SF} : SNx a a := fun e => e
theorem C4 {n i j : Nat} {T : List Tie} (hn : n ≤ 30) (O : TOk n n 0 T) : ((nbs (T.take i) j).map mK).length < SZ := by
  rw [List.length_map]
  exact Nat.lt_of_le_of_lt (Nat.le_trans (List.length_filterMap_le _ _) (Nat.le_trans (List.length_take_le' _ _) (Nat.le_trans O.len (Nat.add_le_add_right (Nat.mul_le_mul_left 30 hn) 0)))) (by decide)
noncomputable abbrev XN (n tk A : Nat) (a b c : Option D) : Sd := [some (.int n), some (.ref tk), some (.ref (A + n)), a, b, c]
theorem EN {n A tk i : Nat} (hn : n ≤ 30) {T : List Tie} (O : TOk n n 0 T) {h h0 : Hd} (hA : A = h.length) (N : NH n A h (T.take i) h0) {t : Tie} (mt : t ∈ T) (un : ∀ s ∈ T.take i, ij s t) (tk1 : T.take (i + 1) = T.take i ++ [t]) (b c : Option D) :
    ∃ h6, cT (XN n tk A (some (cP t)) b c) h0 = .nx (XN n tk A (some (cP t)) (some (.int t.a)) (some (.int t.b))) h6 ∧ NH n A h (T.take (i + 1)) h6 := by
  have tne := O.ne t mt
  have tlt := O.lt t mt
  have fa : far t.a t = some t.b := if_pos rfl
  have fb : far t.b t = some t.a := (if_neg tne).trans (if_pos rfl)
  have na := xl fa un
  have nb := xl fb un
  have rat : ∀ j : Nat, j < n → atI ((List.range n).map fun i => D.ref (A + i)) (j : Int) = some (.ref (A + j)) := fun j hj => cI (by rw [List.getElem?_map, List.getElem?_range hj]; rfl)
  have ra := rat t.a tlt.1
  have rb := rat t.b tlt.2
  have da := N.dc t.a tlt.1
  obtain ⟨p1, p2, p3⟩ := N.put hA tlt.1 (.dct ((nbs (T.take i) t.a ++ [(t.b, t.w)]).map mK))
  obtain ⟨h5, hh5⟩ : ∃ h5, h5 = h0.set (A + t.a) (.dct ((nbs (T.take i) t.a ++ [(t.b, t.w)]).map mK)) := ⟨_, rfl⟩
  rw [← hh5] at p1 p2 p3
  have rf5 : h5[A + n]? = some (.lst ((List.range n).map fun i => .ref (A + i))) := (p3 n (Nat.ne_of_gt tlt.1)).trans N.rf
  have db : h5[A + t.b]? = some (.dct ((nbs (T.take i) t.b).map mK)) := (p3 t.b (Ne.symm tne)).trans (N.dc t.b tlt.2)
  obtain ⟨h6, hh6⟩ : ∃ h6, h6 = h5.set (A + t.b) (.dct ((nbs (T.take i) t.b ++ [(t.a, t.w)]).map mK)) := ⟨_, rfl⟩
  have s4 : sIf (tE (aj Af (aa 5) (fAt (aa 2) (aa 4)))) iL bn (XN n tk A (some (cP t)) (some (.int t.a)) (some (.int t.b))) h0 = .nx (XN n tk A (some (cP t)) (some (.int t.a)) (some (.int t.b))) h0 := by
    refine cF (aQ (am rfl (bq rfl rfl (bP N.rf) ra) ?_))
    rw [G1 da, Aw na]; rfl
  have s5 : nG (fAt (aa 2) (aa 4)) (aa 5) (fAt (aa 3) (fC (.int 2))) (XN n tk A (some (cP t)) (some (.int t.a)) (some (.int t.b))) h0 = .nx (XN n tk A (some (cP t)) (some (.int t.a)) (some (.int t.b))) h5 := by
    rw [hh5, ← vt na]
    exact zy (bq rfl rfl rfl rfl) (bq rfl rfl (bP N.rf) ra) rfl da (C4 hn O)
  have s6 : nG (fAt (aa 2) (aa 5)) (aa 4) (fAt (aa 3) (fC (.int 2))) (XN n tk A (some (cP t)) (some (.int t.a)) (some (.int t.b))) h5 = .nx (XN n tk A (some (cP t)) (some (.int t.a)) (some (.int t.b))) h6 := by
    rw [hh6, ← vt nb]
    exact zy (bq rfl rfl rfl rfl) (bq rfl rfl (bP rf5) rb) rfl db (C4 hn O)
  refine ⟨h6, (aD (cF (bT (aQ (ar (af rfl (af rfl rfl)) (Ax tne tlt.1 tlt.2 (O.wt t mt) h0)))))).trans ((aD (aJ (bq rfl rfl rfl rfl))).trans ((aD (aJ (bq rfl rfl rfl rfl))).trans ((aD s4).trans ((aD s5).trans s6)))), ?_, fun j hj => ?_, ?_⟩
  · obtain ⟨g, e, l⟩ := p1
    exact ⟨_, by rw [hh6, e, mQ hA], by rw [List.length_set]; exact l⟩
  · rw [tk1, C3]
    by_cases e1 : t.b = j
    · subst e1
      rw [hh6, en _ db, fb]
    · rw [hh6, List.getElem?_set_ne (fun z => e1 (Nat.add_left_cancel z))]
      by_cases e2 : t.a = j
      · subst e2
        rw [p2, fa]
      · have : far j t = none := (if_neg e2).trans (if_neg e1)
        rw [p3 j (Ne.symm e2), this, N.dc j hj]
        simp only [List.append_nil]
  · rw [hh6]; exact (List.getElem?_set_ne (fun z => Nat.ne_of_lt tlt.2 (Nat.add_left_cancel z))).trans rf5
theorem Ay {n : Nat} {h : Hd} {A : Nat} (hA : A = h.length) : ∃ h1 g, cw none ((List.range n).map fun k : Nat => D.int k) (gN 0) [] iF ((List.range n).map fun k : Nat => D.int k) [none] h = .ok ((List.range n).map fun i => .ref (A + i)) h1 ∧ h1 = h ++ g ∧ g.length = n ∧ ∀ j, j < n → h1[A + j]? = some (.dct []) := by
  obtain ⟨ds, h1, k1, l1, v1, σ1, -, g, hg, lg, g1⟩ := ka (g := none) (all := (List.range n).map fun k : Nat => D.int k) (tg := gN 0) (xs := (List.range n).map fun k : Nat => D.int k) (k := 0)
    (e := iF) (σ := [none]) (h := h)
    (P := fun i σ h' => (∃ a, σ = [a]) ∧ ∃ g, h' = h ++ g ∧ g.length = i ∧ ∀ j, j < i → h'[A + j]? = some (.dct [])) (V := fun i d => d = .ref (A + i)) (fun _ _ _ _ => trivial) (by
      rintro i x σ h0 hx ⟨⟨a, rfl⟩, g, e0, lg, e1⟩
      obtain ⟨hi, rfl⟩ := gH hx
      rw [Nat.zero_add] at lg e1 ⊢
      have hl : h0.length = A + i := by rw [e0, List.length_append, lg, hA]
      refine ⟨_, rfl, .ref h0.length, h0 ++ [.dct []], rfl, by rw [hl], ⟨_, rfl⟩, g ++ [.dct []], by rw [e0, List.append_assoc], by rw [List.length_append, lg]; rfl, fun j hj => ?_⟩
      by_cases hji : j < i
      · exact fI _ (e1 j hji)
      · rw [Nat.le_antisymm (Nat.le_of_lt_succ hj) (Nat.not_lt.mp hji), ← hl]; exact List.getElem?_concat_length) ⟨⟨_, rfl⟩, [], (List.append_nil _).symm, rfl, fun j hj => absurd hj (Nat.not_lt_zero _)⟩
  rw [List.length_map, List.length_range] at l1
  rw [Nat.zero_add, List.length_map, List.length_range] at lg g1
  have e1 : ds = (List.range n).map fun i => .ref (A + i) := w8 l1 fun i d hd => by have := v1 i d hd; rwa [Nat.zero_add] at this
  exact ⟨h1, g, by rw [k1, e1], hg, lg, g1⟩
inductive NI (n A tk : Nat) (h : Hd) (T : List Tie) : Nat → Sd → Hd → Prop
  | mk {i : Nat} {h' : Hd} {a b c : Option D} (N : NH n A h (T.take i) h') : NI n A tk h T i (XN n tk A a b c) h'
theorem Ha {n : Nat} (hn1 : 1 ≤ n) (hn : n ≤ 30) {T : List Tie} (O : TOk n n 0 T) {B : SF} (hB : SNx cT B) {rest : List D} {h : Hd} {tk : Nat} (ht : h[tk]? = some (.lst (T.map cP ++ rest))) :
    ∃ h2 h3 a3 b3 c3, aR (gN 2) (cy (cg 1 [] (cq (aa 0)) (gN 0) [] iF)) [some (.int n), some (.ref tk), none, none, none, none] h = .nx [some (.int n), some (.ref tk), some (.ref (h.length + n)), none, none, none] h2 ∧ h2[tk]? = some (.lst (T.map cP ++ rest)) ∧
      eA (some tk) (T.map cP ++ rest) (gN 3) B (T.map cP ++ rest) [some (.int n), some (.ref tk), some (.ref (h.length + n)), none, none, none] h2 = eA (some tk) (T.map cP ++ rest) (gN 3) B rest [some (.int n), some (.ref tk), some (.ref (h.length + n)), a3, b3, c3] h3 ∧
      h3[tk]? = some (.lst (T.map cP ++ rest)) ∧ NH n h.length h T h3 := by
  obtain ⟨A, hA⟩ : ∃ A, A = h.length := ⟨_, rfl⟩
  obtain ⟨h1, g, k1, hg, lg, g1⟩ := Ay (n := n) hA
  obtain ⟨h2, hh2⟩ : ∃ h2, h2 = h1 ++ [.lst ((List.range n).map fun i => .ref (A + i))] := ⟨_, rfl⟩
  have l1' : h1.length = A + n := by rw [hg, List.length_append, lg, hA]
  have N0 : NH n A h [] h2 := ⟨⟨g ++ [.lst ((List.range n).map fun i => .ref (A + i))], by rw [hh2, hg, List.append_assoc], by rw [List.length_append, lg]; rfl⟩, fun j hj => by rw [hh2]; exact fI _ (g1 j hj), by rw [hh2, ← l1']; exact List.getElem?_concat_length⟩
  obtain ⟨_, h3, k3, @⟨_, a3, b3, c3, N3⟩⟩ := lC (rest := rest) (P := NI n A tk h T) (g := some tk) (k := 0)
      (all := T.map cP ++ rest) (fun _ _ h' q => by
        obtain ⟨N⟩ := q
        obtain ⟨g, e, _⟩ := N.pre
        show h'[tk]? = _
        rw [e]; exact fI _ ht)
      (xs := T.map cP) (tg := gN 3) (σ := XN n tk A none none none) (h := h2) (b := B) (by
      intro i x σ h0 hx z
      rw [Nat.zero_add] at z ⊢
      obtain @⟨_, a, b, c, N⟩ := z
      have hiT : i < T.length := by have := (List.getElem?_eq_some_iff.mp hx).1; rwa [List.length_map] at this
      rw [List.getElem?_map, List.getElem?_eq_getElem hiT] at hx
      cases hx
      have mt : T[i] ∈ T := List.getElem_mem hiT
      have un : ∀ s ∈ T.take i, ij s T[i] := fun s hs => by
        obtain ⟨k, hk, rfl⟩ := List.getElem_of_mem hs
        rw [List.length_take] at hk
        rw [List.getElem_take]
        exact List.pairwise_iff_getElem.mp O.un k i _ hiT (Nat.lt_of_lt_of_le hk (Nat.min_le_left _ _))
      obtain ⟨h6, q6, N6⟩ := EN (tk := tk) hn O hA N mt un (List.take_succ_eq_append_getElem hiT) b c
      exact ⟨_, rfl, _, h6, hB q6, .mk N6⟩) (.mk N0)
  rw [Nat.zero_add, List.length_map, List.take_length] at N3
  have s2 : aR (gN 2) (cy (cg 1 [] (cq (aa 0)) (gN 0) [] iF)) [some (.int n), some (.ref tk), none, none, none, none] h = .nx [some (.int n), some (.ref tk), some (.ref (A + n)), none, none, none] h2 := by
    rw [hh2, ← l1']
    exact aJ (lD (dH (dD rfl (Nat.le_trans hn (by decide))) k1) (by rw [List.length_map, List.length_range]; exact Nat.le_trans hn (by decide)))
  have t2 : h2[tk]? = some (.lst (T.map cP ++ rest)) := by rw [hh2, hg]; exact fI _ (fI _ ht)
  obtain ⟨g3, e3, _⟩ := N3.pre
  refine ⟨h2, h3, a3, b3, c3, by rw [← hA]; exact s2, t2, by rw [← hA]; exact k3, ?_, by rw [← hA]; exact N3⟩
  rw [e3]; exact fI _ ht
theorem pj {n : Nat} (hn1 : 1 ≤ n) (hn : n ≤ 30) {T : List Tie} (O : TOk n n 0 T) {h : Hd} {tk : Nat} (ht : h[tk]? = some (.lst (T.map cP))) :
    ∃ h', cN [.int n, .ref tk] h = .ok (.ref (h.length + n)) h' ∧ NH n h.length h T h' := by
  obtain ⟨h2, h3, a3, b3, c3, s2, t2, k3, t3, N3⟩ := Ha hn1 hn O (B := cT) SNx.refl (rest := []) (h := h) (tk := tk) (by rw [List.append_nil]; exact ht)
  rw [List.append_nil] at t2 t3 k3
  refine ⟨h3, ?_, N3⟩
  have s1 : sIf (cH (tE (dR .list (aa 1)))) iL bn [some (.int n), some (.ref tk), none, none, none, none] h = .nx [some (.int n), some (.ref tk), none, none, none, none] h := cF (bT (aQ (xc rfl ht)))
  have s3 : jA (hJ (aa 1)) (gN 3) cT [some (.int n), some (.ref tk), some (.ref (h.length + n)), none, none, none] h2 = .nx [some (.int n), some (.ref tk), some (.ref (h.length + n)), a3, b3, c3] h3 := by
    have e : eA (some tk) (T.map cP) (gN 3) cT [] [some (.int n), some (.ref tk), some (.ref (h.length + n)), a3, b3, c3] h3 = .nx [some (.int n), some (.ref tk), some (.ref (h.length + n)), a3, b3, c3] h3 := by
      unfold eA
      exact if_pos t3
    rw [e] at k3
    exact i4 (mR rfl t2) k3
  have st : ([D.int n, D.ref tk].map some ++ List.replicate (6 - [D.int n, D.ref tk].length) none : Sd) = [some (.int n), some (.ref tk), none, none, none, none] := rfl
  unfold cN bE runB
  rw [if_pos (show [D.int n, D.ref tk].length = 2 from rfl), st, aD s1, aD s2, aD s3]
  simp [letGo, pure?]
end Fm
set_option linter.all false
namespace Fm
theorem IH (a b : Int) (h : Hd) : oNe (.int a) (.int b) h = .ok (.bl (!decide (a = b))) h := rfl
theorem Hb {l : List Nat} {n : Nat} (nd : l.Nodup) (h : ∀ x ∈ l, x < n) : l.length ≤ n := by
  induction n generalizing l with
  | zero => match l, h with
    | [], _ => exact Nat.le_refl _
    | x :: _, h => exact absurd (h x List.mem_cons_self) (Nat.not_lt_zero _)
  | succ n ih =>
    by_cases m : n ∈ l
    · have := ih (nd.erase n) fun x hx => by
        have z := (List.Nodup.mem_erase_iff nd).mp hx
        exact Nat.lt_of_le_of_ne (Nat.le_of_lt_succ (h x z.2)) z.1
      rw [List.length_erase_of_mem m] at this
      exact Nat.le_add_of_sub_le this
    · exact Nat.le_succ_of_le (ih nd fun x hx => Nat.lt_of_le_of_ne (Nat.le_of_lt_succ (h x hx)) fun z => m (z ▸ hx))
def rR (n : Nat) (T : List Tie) (bs : List Int) (ss : List (Option Int)) : Web := ⟨(List.range n).map fun i => iI (nbs T i), bs, ss⟩
theorem kM : ∀ l : List (Nat × Int), ej (l.map mK) = some (l.map nU)
  | [] => rfl
  | p :: l => by
    have ih := kM l
    simp only [List.map_cons]
    show (ej (l.map mK)).map _ = _
    rw [ih]
    rfl
theorem Hc {T : List Tie} (un : T.Pairwise ij) (i : Nat) : ((nbs T i).map (·.1)).Nodup := by
  unfold nbs
  induction T with
  | nil => simp
  | cons t T ih =>
    obtain ⟨h1, h2⟩ := List.pairwise_cons.mp un
    have ih := ih h2
    cases e : far i t with
    | none => simp only [List.filterMap_cons, e, Option.map_none]; exact ih
    | some j =>
      simp only [List.filterMap_cons, e, Option.map_some, List.map_cons, List.nodup_cons]
      refine ⟨fun z => ?_, ih⟩
      obtain ⟨p, hp, hpj⟩ := List.mem_map.mp z
      exact xl (T := T) e (fun s hs => (h1 s hs).symm) p hp hpj
theorem EO {l : List (Nat × Int)} (nd : (l.map (·.1)).Nodup) : (l.map nU).Nodup := by
  rw [List.nodup_iff_pairwise_ne, List.pairwise_map] at nd ⊢
  exact nd.imp fun {a b} h e => h (by have := (List.cons.inj e).1; omega)
theorem rS {α : Type} {l : List α} : gw (l.map fun _ => D.bl true) = some (l.map fun _ => true) := by
  induction l with
  | nil => rfl
  | cons x l ih => simp [gw, ih]
theorem tR {n : Nat} {h : Hd} {nk bk : Nat} {l : List D} {bs : List Int} (hn : h[nk]? = some (.lst l)) (hl : l.length = n) (hb : h[bk]? = some (.lst (bs.map .int))) (lb : bs.length = n) : dj [.ref nk, .ref bk] h = .ok (.tup (bs.map .int)) h := by
  have c : cw (some bk) (bs.map D.int) (gN 0) [] (au bR (ad (aa 0) ao)) (bs.map D.int) [none] h = .ok ((bs.map D.int).map fun _ => D.bl true) h := by
    have := b0 (g := some bk) (all := bs.map D.int) (tg := gN 0) (cs := []) (e := au bR (ad (aa 0) ao)) (h := h) (I := fun σ => ∃ a, σ = [a]) (fun _ => true) (fun _ => .bl true) hb (xs := bs.map D.int) (σ := [none]) (by
      rintro x hx σ ⟨a, rfl⟩
      obtain ⟨i, _, rfl⟩ := List.mem_map.mp hx
      exact ⟨_, rfl, ⟨_, rfl⟩, rfl, fun _ => ar (af rfl rfl) (kK _ _)⟩) ⟨_, rfl⟩
    rw [this, List.filter_eq_self.mpr (by simp)]
  have al : ((bs.map D.int).map fun _ => true).all id = true := by simp
  have lg := fF (h := h) (g := []) (d := .tup (bs.map D.int)) (by simp only [pure?]; exact dZ fun _ _ => rfl)
  rw [List.append_nil] at lg
  have s1 : sIf (tE (aj nj (aa 1) (fC .non))) iL bn [some (.ref nk), some (.ref bk)] h = .nx [some (.ref nk), some (.ref bk)] h := cF (aQ (am rfl rfl rfl))
  have s2 : sIf (tOr (cH (tE (dR .list (aa 1)))) (tE (aj oNe (dA (lOf (aa 1))) (dA (lOf (aa 0)))))) iL bn [some (.ref nk), some (.ref bk)] h = .nx [some (.ref nk), some (.ref bk)] h := by
    exact cF (fV (bT (b := true) (aQ (xc rfl hb))) (aQ (am (dh (cL rfl (bP hb))) (dh (cL rfl (bP hn))) (by rw [IH, List.length_map, lb, hl, decide_eq_true rfl]; rfl))))
  have s3 : sIf (cH (tE (uN (cg 1 [] (hJ (aa 1)) (gN 0) [] (au bR (ad (aa 0) ao)))))) iL bn [some (.ref nk), some (.ref bk)] h = .nx [some (.ref nk), some (.ref bk)] h := by
    exact cF (bT (b := true) (aQ ((xf (dH (mR rfl hb) c) rS).trans (by rw [al]))))
  have s4 : bb (dQ (lOf (aa 1))) [some (.ref nk), some (.ref bk)] h = .rt (.tup (bs.map .int)) h := bg (kH (cL rfl (bP hb)))
  have st : ([D.ref nk, D.ref bk].map some ++ List.replicate (2 - [D.ref nk, D.ref bk].length) none : Sd) = [some (.ref nk), some (.ref bk)] := rfl
  unfold dj bE runB
  rw [if_pos (show [D.ref nk, D.ref bk].length = 2 from rfl), st, aD s1, aD s2, aD s3, s4]
  exact lg
theorem pk {n : Nat} {h : Hd} {sk : Nat} {ss : List (Option Int)} (hs : h[sk]? = some (.lst (ss.map bO))) (ls : ss.length = n) (os : ∀ x ∈ ss, x = none ∨ x = some 0 ∨ x = some 1) : cO [.int n, .ref sk] h = .ok (.tup (ss.map bO)) h := by
  have c : cw (some sk) (ss.map bO) (gN 0) [] (fT (tOr (tE (aj nj (aa 0) (fC .non))) (tE (au a0 (ad (aa 0) ao))))) (ss.map bO) [none] h = .ok ((ss.map bO).map fun _ => D.bl true) h := by
    have := b0 (g := some sk) (all := ss.map bO) (tg := gN 0) (cs := []) (e := fT (tOr (tE (aj nj (aa 0) (fC .non))) (tE (au a0 (ad (aa 0) ao))))) (h := h) (I := fun σ => ∃ a, σ = [a]) (fun _ => true) (fun _ => .bl true) hs (xs := ss.map bO) (σ := [none]) (by
      rintro x hx σ ⟨a, rfl⟩
      obtain ⟨i, hi, rfl⟩ := List.mem_map.mp hx
      refine ⟨_, rfl, ⟨_, rfl⟩, rfl, fun _ => ?_⟩
      rcases os i hi with e | e | e <;> subst e
      · exact iH (w9 (aQ (am rfl rfl rfl)))
      · exact iH (fV (aQ (am rfl rfl rfl)) (aQ (ar (af rfl rfl) (b9 0 h))))
      · exact iH (fV (aQ (am rfl rfl rfl)) (aQ (ar (af rfl rfl) (b9 1 h))))) ⟨_, rfl⟩
    rw [this, List.filter_eq_self.mpr (by simp)]
  have lg := fF (h := h) (g := []) (d := .tup (ss.map bO)) (by simp only [pure?]; exact dZ fun x _ => by cases x <;> rfl)
  rw [List.append_nil] at lg
  have s1 : sIf (tE (aj nj (aa 1) (fC .non))) (bb (dQ (cg 1 [] (cq (aa 0)) (gN 0) [] (fC .non)))) bn [some (.int n), some (.ref sk)] h = .nx [some (.int n), some (.ref sk)] h := cF (aQ (am rfl rfl rfl))
  have s2 : sIf (tOr (cH (tE (dR .list (aa 1)))) (tE (aj oNe (dA (lOf (aa 1))) (aa 0)))) iL bn [some (.int n), some (.ref sk)] h = .nx [some (.int n), some (.ref sk)] h := by
    exact cF (fV (bT (b := true) (aQ (xc rfl hs))) (aQ (am (dh (cL rfl (bP hs))) rfl (by rw [IH, List.length_map, ls, decide_eq_true rfl]; rfl))))
  have s3 : sIf (cH (tE (uN (cg 1 [] (hJ (aa 1)) (gN 0) [] (fT (tOr (tE (aj nj (aa 0) (fC .non))) (tE (au a0 (ad (aa 0) ao))))))))) iL bn [some (.int n), some (.ref sk)] h = .nx [some (.int n), some (.ref sk)] h := by
    have al : ((ss.map bO).map fun _ => true).all id = true := by simp
    exact cF (bT (b := true) (aQ ((xf (dH (mR rfl hs) c) rS).trans (by rw [al]))))
  have s4 : bb (dQ (lOf (aa 1))) [some (.int n), some (.ref sk)] h = .rt (.tup (ss.map bO)) h := bg (kH (cL rfl (bP hs)))
  have st : ([D.int n, D.ref sk].map some ++ List.replicate (2 - [D.int n, D.ref sk].length) none : Sd) = [some (.int n), some (.ref sk)] := rfl
  unfold cO bE runB
  rw [if_pos (show [D.int n, D.ref sk].length = 2 from rfl), st, aD s1, aD s2, aD s3, s4]
  exact lg
theorem EQ {n A : Nat} (hn : n ≤ 30) {T : List Tie} (O : TOk n n 0 T) {h h1 : Hd} (N : NH n A h T h1) :
    cw (some (A + n)) ((List.range n).map fun i => .ref (A + i)) (gN 0) [] (dQ (j7 (aa 0))) ((List.range n).map fun i => .ref (A + i)) [none] h1 = .ok (((List.range n).map fun i => iI (nbs T i)).map mJ) h1 := by
  have := b0 (g := some (A + n)) (all := (List.range n).map fun i => .ref (A + i)) (tg := gN 0) (cs := []) (e := dQ (j7 (aa 0))) (h := h1) (I := fun σ => ∃ a, σ = [a]) (fun _ => true)
    (fun d => match d with | .ref k => mJ (iI (nbs T (k - A))) | _ => .non) N.rf (xs := (List.range n).map fun i => .ref (A + i)) (σ := [none]) (by
      rintro x hx σ ⟨a, rfl⟩
      obtain ⟨i, hi, rfl⟩ := List.mem_map.mp hx
      have hi := List.mem_range.mp hi
      refine ⟨_, rfl, ⟨_, rfl⟩, rfl, fun _ => ?_⟩
      have nd := Hc O.un i
      have l64 : ((nbs T i).map nU).length < 64 := by
        have lt : ∀ p ∈ nbs T i, p.1 < n := fun p hp => by
          unfold nbs at hp
          obtain ⟨t, ht', q⟩ := List.mem_filterMap.mp hp
          have := O.lt t ht'
          unfold far at q
          by_cases a1 : t.a = i
          · rw [if_pos a1] at q; simp at q; subst q; exact this.2
          · rw [if_neg a1] at q
            by_cases a2 : t.b = i
            · rw [if_pos a2] at q; simp at q; subst q; exact this.1
            · rw [if_neg a2] at q; cases q
        have := Hb nd (n := n) (fun x hx => by
          obtain ⟨p, hp, rfl⟩ := List.mem_map.mp hx
          exact lt p hp)
        simp at this ⊢
        omega
      have e : ((cC ((nbs T i).map nU)).map tF) = (iI (nbs T i)).map w6 := by rw [← rN, List.map_map]; rfl
      simp only [List.set_cons_zero, dQ, j7, aa, slot, List.getElem?_cons_zero, aI, N.dc i hi, kM, if_pos (And.intro l64 (EO nd)), e, mJ, Nat.add_sub_cancel_left]) ⟨_, rfl⟩
  rw [this, List.filter_eq_self.mpr (by simp), List.map_map, List.map_map]
  congr 1
  apply List.map_congr_left
  intro i _
  simp
theorem Az {n : Nat} (hn1 : 1 ≤ n) (hn : n ≤ 30) {T : List Tie} (O : TOk n n 0 T) {bs : List Int} {ss : List (Option Int)} (lb : bs.length = n) (ls : ss.length = n) (os : ∀ x ∈ ss, x = none ∨ x = some 0 ∨ x = some 1) {h : Hd} {tk bk sk : Nat}
    (ht : h[tk]? = some (.lst (T.map cP))) (hb : h[bk]? = some (.lst (bs.map .int))) (hs : h[sk]? = some (.lst (ss.map bO))) : gG [.int n, .ref tk, .ref bk, .ref sk] h = .ok (rR n T bs ss).enc h := by
  obtain ⟨h1, r1, N⟩ := pj hn1 hn O ht
  obtain ⟨A, hA⟩ : ∃ A, A = h.length := ⟨_, rfl⟩
  rw [← hA] at r1 N
  obtain ⟨g, hg, lg⟩ := N.pre
  have old : ∀ {k : Nat} {c : gv}, h[k]? = some c → h1[k]? = some c := fun {k c} e => by rw [hg, List.getElem?_append_left (List.getElem?_eq_some_iff.mp e).1]; exact e
  have comp := EQ hn O N
  have bt := tR (n := n) (l := (List.range n).map fun i => .ref (A + i)) N.rf (by simp) (old hb) lb
  have stt := pk (n := n) (old hs) ls os
  have i1 : (1 : Int) ≤ n := Int.ofNat_le.mpr hn1
  have i2 : (n : Int) ≤ 30 := Int.ofNat_le.mpr hn
  have rf := N.rf
  have s1 : sIf (cH (tE (au aZ (ad (aa 0) (ad (fC (.int 1)) (ad (fC (.int 30)) ao)))))) iL bn [some (.int n), some (.ref tk), some (.ref bk), some (.ref sk), none, none] h = .nx [some (.int n), some (.ref tk), some (.ref bk), some (.ref sk), none, none] h := cF (bT (b := true) (aQ (ar (af rfl (af rfl (af rfl rfl))) (by rw [fJ, decide_eq_true i1, decide_eq_true i2]; rfl))))
  have s2 : aR (gN 4) (au cN (ad (aa 0) (ad (aa 1) ao))) [some (.int n), some (.ref tk), some (.ref bk), some (.ref sk), none, none] h = .nx [some (.int n), some (.ref tk), some (.ref bk), some (.ref sk), some (.ref (A + n)), none] h1 := aJ (ar (af rfl (af rfl rfl)) r1)
  have s3 : aR (gN 5) (dQ (cg 1 [] (hJ (aa 4)) (gN 0) [] (dQ (j7 (aa 0))))) [some (.int n), some (.ref tk), some (.ref bk), some (.ref sk), some (.ref (A + n)), none] h1 = .nx [some (.int n), some (.ref tk), some (.ref bk), some (.ref sk), some (.ref (A + n)), some (.tup (((List.range n).map fun i => iI (nbs T i)).map mJ))] h1 := by
    exact aJ (kH (dH (mR rfl rf) comp))
  have s4 : bb (cj (ad (aa 5) (ad (au dj (ad (aa 4) (ad (aa 2) ao))) (ad (au cO (ad (aa 0) (ad (aa 3) ao))) ao)))) [some (.int n), some (.ref tk), some (.ref bk), some (.ref sk), some (.ref (A + n)), some (.tup (((List.range n).map fun i => iI (nbs T i)).map mJ))] h1 = .rt (rR n T bs ss).enc h1 := by
    exact bg (fG (af rfl (af (ar (af rfl (af rfl rfl)) bt) (af (ar (af rfl (af rfl rfl)) stt) rfl))) (by exact of_decide_eq_true rfl))
  have st : ([D.int n, D.ref tk, D.ref bk, D.ref sk].map some ++ List.replicate (6 - [D.int n, D.ref tk, D.ref bk, D.ref sk].length) none : Sd) = [some (.int n), some (.ref tk), some (.ref bk), some (.ref sk), none, none] := rfl
  unfold gG bE runB
  rw [if_pos (show [D.int n, D.ref tk, D.ref bk, D.ref sk].length = 4 from rfl), st, aD s1, aD s2, aD s3, s4]
  show letGo h (.ok _ h1) = _
  rw [hg]
  exact fF (C2 _)
end Fm
set_option linter.all false
namespace Fm
theorem He {n : Nat} {T : List Tie} (lt : ∀ t ∈ T, t.a < n ∧ t.b < n) {i : Nat} : ∀ p ∈ nbs T i, p.1 < n := fun p hp => by
  unfold nbs at hp
  obtain ⟨t, ht', q⟩ := List.mem_filterMap.mp hp
  have := lt t ht'
  unfold far at q
  by_cases a1 : t.a = i
  · rw [if_pos a1] at q; simp at q; subst q; exact this.2
  · rw [if_neg a1] at q
    by_cases a2 : t.b = i
    · rw [if_pos a2] at q; simp at q; subst q; exact this.1
    · rw [if_neg a2] at q; cases q
theorem C5 {n : Nat} (hn : n ≤ 30) {T : List Tie} (O : TOk n n 0 T) {bs : List Int} {ss : List (Option Int)} (lb : bs.length = n) (ls : ss.length = n) : (rR n T bs ss).Ok n := by
  refine ⟨by simp [rR], lb, ls, fun r hr p hp => ?_, by omega⟩
  obtain ⟨i, _, rfl⟩ := List.mem_map.mp hr
  exact He O.lt p (rP.mp hp)
structure JC (n : Nat) (T : List Tie) (bs : List Int) (ss : List (Option Int)) (tk bk sk : Nat) (h : Hd) : Prop where
  ti : h[tk]? = some (.lst (T.map cP))
  ba : h[bk]? = some (.lst (bs.map .int))
  st : h[sk]? = some (.lst (ss.map bO))
structure Hf (n : Nat) (ss : List (Option Int)) (s : List Int) : Prop where
  len : s.length = n
  op : ∀ x ∈ s, x = 0 ∨ x = 1
  st : ∀ (i : Nat) x, ss[i]? = some (some x) → s[i]? = some x
theorem Hf.fits {n : Nat} {ss : List (Option Int)} {s : List Int} (f : Hf n ss s) (T : List Tie) (bs : List Int) : j9 (rR n T bs ss) n s := ⟨f.len, f.op, f.st⟩
theorem rT (ns : List Int) (k : Nat) {n : Nat} (hn : n ≤ 30) {ss : List (Option Int)} (ls : ss.length = n) (os : ∀ x ∈ ss, x = none ∨ x = some 0 ∨ x = some 1) {h : Hd} {sk : Nat} (hs : h[sk]? = some (.lst (ss.map bO))) :
    ∃ s, dm [.lit (ns.map .int), .int k, .ref sk] h = .ok (aH s) h ∧ Hf n ss s := by
  obtain ⟨A, hA⟩ : ∃ A, A = h.length := ⟨_, rfl⟩
  have hsk : sk < h.length := (List.getElem?_eq_some_iff.mp hs).1
  obtain ⟨c0, m, q0⟩ := kL ns k h
  obtain ⟨σ', h', k1, acc, a, b, c, t, k2, k3, k4, k5, k6⟩ := ff (P := fun i σ h' => ∃ (acc : List Int) (a b : Option D) (c t : Int), σ = [some (.lit (ns.map .int)), some (.int k), some (.ref sk), some (.ref A), some (.ref (A + 1)), a, b] ∧ h' = h ++ [.lst [.int c, .int t, .bl m], .lst (acc.map .int)] ∧ acc.length = i ∧ (∀ x ∈ acc, x = 0 ∨ x = 1) ∧ ∀ (j : Nat) x, j < i → ss[j]? = some (some x) → acc[j]? = some x) (g := some sk) (k := 0)
      (all := ss.map bO) (fun _ _ h' q => by
        obtain ⟨_, _, _, _, _, _, e, _⟩ := q
        show h'[sk]? = _
        rw [e, List.getElem?_append_left hsk]; exact hs)
      (xs := ss.map bO) (tg := gN 5) (σ := [some (.lit (ns.map .int)), some (.int k), some (.ref sk), some (.ref A), some (.ref (A + 1)), none, none]) (h := h ++ [.lst [.int c0, .int 0, .bl m], .lst []]) (b := ke) (by
      rintro i x σ h0 hx ⟨acc, a, b, c, t, rfl, hh0, la, oa, sa⟩
      rw [Nat.zero_add] at la sa ⊢
      have hi : i < ss.length := by have := (List.getElem?_eq_some_iff.mp hx).1; simpa using this
      obtain ⟨u, hu⟩ : ∃ u, u = ss[i] := ⟨_, rfl⟩
      have hx' : x = bO u := by rw [hu]; simpa [hi] using hx.symm
      subst hx'
      have hu' : ss[i]? = some u := by rw [hu]; simp [hi]
      have mu := os u (List.mem_of_getElem? hu')
      have gA : h0[A]? = some (.lst [.int c, .int t, .bl m]) := by rw [hh0, hA]; simp
      obtain ⟨v, c', t', dg, v0, v1⟩ := i6 (m := 2) gA (by omega) (by simp)
      obtain ⟨h1, hh1⟩ : ∃ h1, h1 = h ++ [.lst [.int c', .int t', .bl m], .lst (acc.map .int)] := ⟨_, rfl⟩
      have e1 : h0.set A (.lst [.int c', .int t', .bl m]) = h1 := by rw [hh1, hh0, hA]; simp
      rw [e1] at dg
      have g1 : h1[A + 1]? = some (.lst (acc.map .int)) := by rw [hh1, hA, List.getElem?_append_right (by omega)]; simp
      have lz : acc.length < 1000000 := by omega
      obtain ⟨y, hy⟩ : ∃ y, y = (match u with | some z => z | none => v) := ⟨_, rfl⟩
      have yb : y = 0 ∨ y = 1 := by
        cases u with
        | none => simp only at hy; omega
        | some z => simp only at hy; simp at mu; omega
      have set1 : h1.set (A + 1) (.lst (acc.map .int ++ [.int y])) = h ++ [.lst [.int c', .int t', .bl m], .lst ((acc ++ [y]).map .int)] := by
        rw [hh1, hA, List.set_append_right _ _ (by omega)]; simp
      have s1 : aR (gN 6) (au aB (ad (aa 3) (ad (fC (.int 2)) ao))) [some (.lit (ns.map .int)), some (.int k), some (.ref sk), some (.ref A), some (.ref (A + 1)), some (bO u), b] h0 = .nx [some (.lit (ns.map .int)), some (.int k), some (.ref sk), some (.ref A), some (.ref (A + 1)), some (bO u), some (.int v)] h1 := by simp [dg]
      have s2 : sIf (tE (aj ee (aa 5) (fC .non))) (aR (gN 6) (aa 5)) bn [some (.lit (ns.map .int)), some (.int k), some (.ref sk), some (.ref A), some (.ref (A + 1)), some (bO u), some (.int v)] h1 = .nx [some (.lit (ns.map .int)), some (.int k), some (.ref sk), some (.ref A), some (.ref (A + 1)), some (bO u), some (.int y)] h1 := by
        rw [hy]
        cases u <;> simp [bO]
      have s3 : dJ (mH (aa 4) (aa 6)) [some (.lit (ns.map .int)), some (.int k), some (.ref sk), some (.ref A), some (.ref (A + 1)), some (bO u), some (.int y)] h1 = .nx [some (.lit (ns.map .int)), some (.int k), some (.ref sk), some (.ref A), some (.ref (A + 1)), some (bO u), some (.int y)] (h ++ [.lst [.int c', .int t', .bl m], .lst ((acc ++ [y]).map .int)]) := by
        rw [← set1]; simp [SZ, g1, lz]
      refine ⟨_, rfl, [some (.lit (ns.map .int)), some (.int k), some (.ref sk), some (.ref A), some (.ref (A + 1)), some (bO u), some (.int y)], _, ?_, acc ++ [y], _, _, c', t', rfl, rfl, by simp [la], fun z hz => ?_, fun j z hj e => ?_⟩
      · show aE _ _ [some (.lit (ns.map .int)), some (.int k), some (.ref sk), some (.ref A), some (.ref (A + 1)), some (bO u), b] h0 = _
        rw [aD s1, aD s2, s3]
      · rcases List.mem_append.mp hz with hz | hz
        · exact oa z hz
        · simp at hz; subst hz; exact yb
      · by_cases ji : j < i
        · rw [List.getElem?_append_left (by omega)]; exact sa j z ji e
        · have : j = i := by omega
          subst this
          rw [hu'] at e
          cases e
          rw [List.getElem?_append_right (by omega), la]
          simp [hy]) ⟨[], none, none, c0, 0, rfl, by simp, rfl, by simp, fun j _ hj => by omega⟩
  have e0 : 0 + (ss.map bO).length = n := by simp [ls]
  rw [e0] at k4 k6
  refine ⟨acc, ?_, ⟨k4, k5, fun i x e => k6 i x (by have := (List.getElem?_eq_some_iff.mp e).1; omega) e⟩⟩
  have gB : h'[A + 1]? = some (.lst (acc.map .int)) := by rw [k3, hA, List.getElem?_append_right (by omega)]; simp
  have hs1 : (h ++ [gv.lst [.int c0, .int 0, .bl m], .lst []])[sk]? = some (.lst (ss.map bO)) := by rw [List.getElem?_append_left hsk]; exact hs
  have s1 : aR (gN 3) (au bL (ad (aa 0) (ad (aa 1) ao))) [some (.lit (ns.map .int)), some (.int k), some (.ref sk), none, none, none, none] h = .nx [some (.lit (ns.map .int)), some (.int k), some (.ref sk), some (.ref A), none, none, none] (h ++ [.lst [.int c0, .int 0, .bl m]]) := by simp [q0, hA]
  have s2 : aR (gN 4) (cy ao) [some (.lit (ns.map .int)), some (.int k), some (.ref sk), some (.ref A), none, none, none] (h ++ [.lst [.int c0, .int 0, .bl m]]) = .nx [some (.lit (ns.map .int)), some (.int k), some (.ref sk), some (.ref A), some (.ref (A + 1)), none, none] (h ++ [.lst [.int c0, .int 0, .bl m], .lst []]) := by simp [SZ, hA]
  have s3 : jA (hJ (aa 2)) (gN 5) ke [some (.lit (ns.map .int)), some (.int k), some (.ref sk), some (.ref A), some (.ref (A + 1)), none, none] (h ++ [.lst [.int c0, .int 0, .bl m], .lst []]) = .nx [some (.lit (ns.map .int)), some (.int k), some (.ref sk), some (.ref A), some (.ref (A + 1)), a, b] h' := by
    rw [k2] at k1
    simp [hs1, k1]
  have s4 : bb (dQ (lOf (aa 4))) [some (.lit (ns.map .int)), some (.int k), some (.ref sk), some (.ref A), some (.ref (A + 1)), a, b] h' = .rt (aH acc) h' := by simp [gB, aH]
  have st : ([D.lit (ns.map .int), D.int k, D.ref sk].map some ++ List.replicate (7 - [D.lit (ns.map .int), D.int k, D.ref sk].length) none : Sd) = [some (.lit (ns.map .int)), some (.int k), some (.ref sk), none, none, none, none] := rfl
  unfold dm bE runB
  rw [if_pos (show [D.lit (ns.map .int), D.int k, D.ref sk].length = 3 from rfl), st, aD s1, aD s2, aD s3, s4]
  show letGo h (.ok _ h') = _
  rw [k3]
  exact fF (by unfold aH; simp only [pure?]; exact dZ fun _ _ => rfl)
end Fm
set_option linter.all false
namespace Fm
def LeS (a b : List Int) : Prop := ∀ i : Nat, a.getD i 0 ≤ b.getD i 0
structure JD (w1 w2 : Web) (n : Nat) : Prop where
  go : ∀ a b, j9 w1 n a → j9 w2 n b → LeS a b → LeS (vh w1 n a) (vh w2 n b)
end Fm
set_option linter.all false
namespace Fm
noncomputable def bS : Fn := bE 2 2 (bb (uN (cg 2 [] (Ev (aa 0) (aa 1)) (gT [0, 1]) [] (aj oLe (aa 0) (aa 1)))))
noncomputable def jt : Fn := bE 4 8 (aE (aR (gN 4) (aj cE (aa 3) (dA (lOf (aa 0)))))
    (aE (aR (gN 5) (cy (cg 1 [1] (cq (dA (lOf (aa 0)))) (gN 0) [(tE (aj ee (fAt (aa 1) (aa 0)) (fC .non)))] (aa 0))))
    (aE (sIf (fY (tE (aj oEq (aj cE (aa 2) (fC (.int 3))) (fC (.int 0)))) (tE (aj oNe (aa 5) (cy ao)))) (aE (aR (gN 4) (fAt (aa 5) (aj cE (aa 3) (dA (lOf (aa 5))))))
    (bb (aj bZ (aj bZ (bf (aa 0) pNo (pAt (aa 4))) (cj (ad (aj sS (fC (.int 1)) (fAt (aa 0) (aa 4))) ao))) (bf (aa 0) (pAt (aj bJ (aa 4) (fC (.int 1)))) pNo)))) bn)
    (aE (sIf (tE (aj oEq (aj cE (aa 2) (fC (.int 3))) (fC (.int 1)))) (aE (aR (gN 6) (fIx (ad (fC (.int 2)) (ad (fC (.int (-1))) (ad (fC (.bl true)) (ad (fC (.bl false)) (ad (fC .non) (ad (fC (.str [49])) (ad (cj (ad (fC (.int 1)) ao)) (ad (aj z7 (fC (.int 10)) (fC (.int 30))) ao)))))))) (aj cE (aj eU (aa 2) (fC (.int 3))) (fC (.int 8)))))
    (bb (aj bZ (aj bZ (bf (aa 0) pNo (pAt (aa 4))) (cj (ad (aa 6) ao))) (bf (aa 0) (pAt (aj bJ (aa 4) (fC (.int 1)))) pNo)))) bn)
    (aE (aR (gN 7) (cy (ad (aj bJ (aa 0) (cj (ad (fC (.int 0)) ao))) (ad (bf (aa 0) (pAt (fC (.int 1))) pNo) (ad (aj bZ (bf (aa 0) pNo (pAt (aa 4))) (bf (aa 0) (pAt (aj bJ (aa 4) (fC (.int 1)))) pNo)) (ad (cy (lOf (aa 0))) (ad (fC .non) ao)))))))
    (aE (dJ (mH (aa 7) (zw (cg 1 [] (hJ (aa 0)) (gN 0) [] (An (aa 0))))))
    (bb (fAt (cy (rH (aa 7) (cy (ad (aj bJ (aa 0) (cj (ad (fAt (aa 0) (fC (.int 0))) ao))) (ad (cj ao) (ad (fC (.int 5)) (ad iF (ad (cj (ad (aa 0) ao)) (ad (fC (.bl true)) ao))))))))) (aj cE (aj eU (aa 2) (fC (.int 3))) (fC (.int 12)))))))))))
noncomputable def bH : Fn := bE 2 4 (aE (aR (gN 2) (au bS (ad (aa 0) (ad (aa 1) ao))))
    (aE (aR (gN 3) (aj oEq (dA (cg 1 [0, 1] (cq (dA (lOf (aa 0)))) (gN 0) [(fY (tE (aj oEq (fAt (aa 1) (aa 0)) (fC (.int 1)))) (tE (aj oEq (fAt (aa 2) (aa 0)) (fC (.int 0)))))] (aa 0))) (fC (.int 0))))
    (bb (fT (fY (tE (dR .bool (aa 2))) (tE (aj oEq (aa 2) (aa 3))))))))
noncomputable def bw : Fn := bE 2 2 (iZ (cH (tE (au cM (ad (aa 0) (ad (aa 1) ao))))) (tJ "NoStand") bn)
noncomputable def eY : Fn := bE 3 3 (aE (dJ (au bw (fPl (ad (aa 0) (ad (aa 1) ao)))))
    (sPl (bb (au dX (ad (aa 0) (ad (aa 1) (ad (aa 2) ao)))))))
noncomputable def cQ : Fn := bE 3 3 (aE (dJ (au bw (fPl (ad (aa 0) (ad (aa 1) ao)))))
    (sPl (bb (au dl (ad (aa 0) (ad (aa 1) (ad (aa 2) ao)))))))
noncomputable def eZ : Fn := bE 2 2 (aE (dJ (au bw (fPl (ad (aa 0) (ad (aa 1) ao)))))
    (sPl (bb (au gF (ad (aa 0) (ad (aa 1) ao))))))
noncomputable def dN : Fn := bE 4 6 (aE (aR (gN 4) (fC .non))
    (aE (va 6 4 ["NoStand"] (iZ (tE (aj oEq (aa 0) (fC (.int 0)))) (dJ (au eY (fPl (ad (aa 1) (ad (aa 2) (ad (aa 3) ao)))))) (iZ (tE (aj oEq (aa 0) (fC (.int 1)))) (dJ (au cQ (fPl (ad (aa 1) (ad (aa 2) (ad (aa 3) ao)))))) (dJ (au eZ (fPl (ad (aa 1) (ad (aa 2) ao))))))))
    (aE (sIf (tE (aj nj (aa 4) (fC .non))) (bb (fC (.str [110, 111, 110, 101]))) bn)
    (aE (sIf (cH (tE (wY [("NoStand", true)] (aa 4)))) (bb (fC (.str [111, 116, 104, 101, 114]))) bn)
    (aE (sIf (tE (wY [("NoStand", false)] (aa 4))) (bb (fC (.str [111, 116, 104, 101, 114]))) bn)
    (bb (fIx (ad (fC (.str [111, 116, 104, 101, 114])) (ad (fC (.str [115, 116, 97, 110, 100])) ao)) (Ef (wY [("NoStand", true)] (aa 4))))))))))
noncomputable abbrev C6 : SF := (aR (gT [1, 2, 3, 4, 5]) (au dM (ad (aa 0) ao)))
noncomputable abbrev C7 : SF := (aR (gN 6) (au gG (ad (aa 1) (ad (aa 2) (ad (aa 3) (ad (aa 4) ao))))))
noncomputable abbrev C8 : SF := (aR (gN 7) (au dm (ad (aa 0) (ad (fC (.int 41)) (ad (aa 4) ao)))))
noncomputable abbrev C9 : SF := (aR (gN 8) (au bL (ad (aa 0) (ad (fC (.int 42)) ao))))
noncomputable abbrev xm : SF := (sIf (tOr (tE (aj oNe (au dN (ad (aa 13) (ad (aa 6) (ad (aa 7) (ad (aa 11) ao))))) (fC (.str [110, 111, 110, 101])))) (tE (aj oNe (au dN (ad (aa 13) (ad (aa 6) (ad (aa 12) (ad (aa 11) ao))))) (fC (.str [115, 116, 97, 110, 100]))))) (bb (fC (.bl false))) bn)
noncomputable abbrev xn : SF := (aE (aR (gN 10) (au aB (ad (aa 8) (ad (fC (.int 720)) ao))))
    (aE (aR (gN 11) (au aB (ad (aa 8) (ad (aa 1) ao))))
    (aE (aR (gN 12) (au jt (ad (aa 7) (ad (aa 4) (ad (aa 10) (ad (au aB (ad (aa 8) (ad (fC (.int 900)) ao))) ao))))))
    (aE (sIf (tOr (tE (aj ii (au cM (ad (aa 6) (ad (aa 7) ao))) (fC (.bl true)))) (tE (aj ii (au cM (ad (aa 6) (ad (aa 12) ao))) (fC (.bl false))))) (bb (fC (.bl false))) bn)
    (jA (cq (fC (.int 3))) (gN 13) xm)))))
noncomputable abbrev Da : SF := (jA (cq (fC (.int 10))) (gN 9) xn)
noncomputable abbrev xo : SF := (aE (aR (gN 11) (au dm (ad (aa 0) (ad (aj bJ (fC (.int 43)) (aa 14)) (ad (cy (nH (ad (fC .non) ao) (aa 1))) ao)))))
    (aE (aR (gN 15) (au dm (ad (aa 0) (ad (aj bJ (fC (.int 47)) (aa 14)) (ad (cy (nH (ad (fC .non) ao) (aa 1))) ao)))))
    (aE (sIf (tE (aj oGt (aa 14) (fC (.int 1)))) (aR (gN 15) (dQ (cg 2 [11] (rq (aa 15)) (gT [0, 1]) [] (u0 (aa 1) (fAt (aa 2) (aa 0)))))) bn)
    (aE (sIf (tE (aj oEq (aa 14) (fC (.int 3)))) (aR (gN 15) (aj bZ (aj bZ (bf (aa 15) pNo (pAt (aj eU (aa 1) (fC (.int 3))))) (cj (ad (fC (.int 0)) ao))) (bf (aa 15) (pAt (aj bJ (aj eU (aa 1) (fC (.int 3))) (fC (.int 1)))) pNo))) bn)
    (sIf (tOr (cH (tE (au bH (ad (aa 11) (ad (aa 15) ao))))) (cH (tE (au bH (ad (aa 15) (ad (aa 11) ao)))))) (bb (fC (.bl false))) bn)))))
noncomputable abbrev Db : SF := (jA (cq (fC (.int 4))) (gN 14) xo)
noncomputable abbrev Dc : SF := (aR (gN 16) (aj bZ (aj bZ (bf (aa 7) pNo (pAt (aj eU (aa 1) (fC (.int 2))))) (cj (ad (fC (.int 0)) ao))) (bf (aa 7) (pAt (aj bJ (aj eU (aa 1) (fC (.int 2))) (fC (.int 1)))) pNo)))
noncomputable abbrev Dd : SF := (aR (gN 17) (aj bZ (aj bZ (bf (aa 7) pNo (pAt (aj eU (aa 1) (fC (.int 2))))) (cj (ad (fC (.int 1)) ao))) (bf (aa 7) (pAt (aj bJ (aj eU (aa 1) (fC (.int 2))) (fC (.int 1)))) pNo)))
noncomputable abbrev De : SF := (sIf (tOr (tE (aj ii (au bS (ad (aa 16) (ad (aa 17) ao))) (fC (.bl true)))) (tE (aj ii (au bS (ad (aa 17) (ad (aa 16) ao))) (fC (.bl false))))) (bb (fC (.bl false))) bn)
noncomputable abbrev Df : SF := (bb (fT (fY (tE (aj EG (au bS (ad (aa 7) (ad (aa 7) ao))) (fC (.bl true)))) (fY (tE (aj EG (au bS (ad (aa 16) (ad (aa 7) ao))) (fC (.bl true)))) (tE (aj EG (au bS (ad (aa 7) (ad (aa 17) ao))) (fC (.bl true))))))))
noncomputable def zD : Fn := bE 1 18 (aE C6 (aE C7 (aE C8 (aE C9 (aE Da (aE Db (aE Dc (aE Dd (aE De Df)))))))))
end Fm
set_option linter.all false
namespace Fm
theorem tS {n np : Nat} {b : SF} {ds : List D} {h h' : Hd} {σ σ' : Sd} {x : D} (hl : ds.length = np) (st : (ds.map some ++ List.replicate (n - ds.length) none : Sd) = σ) (e : b σ h = .exc x σ' h') : bE np n b ds h = .exc x h' := by
  unfold bE runB
  rw [if_pos hl, st, e]
  rfl
theorem tT {a b : SF} {σ σ' : Sd} {h h' : Hd} {x : D} (e : a σ h = .exc x σ' h') : aE a b σ h = .exc x σ' h' := by simp only [aE, e]
theorem kf {t : TF} {a b : SF} {σ : Sd} {h h' : Hd} (e : t σ h = .ok false h') : iZ t a b σ h = b σ h' := by unfold iZ; rw [e]; rfl
theorem ER {t : TF} {c : String} {b : SF} {σ : Sd} {h h' : Hd} (e : t σ h = .ok true h') : iZ t (tJ c) b σ h = .exc (.exn c []) σ h' := by unfold iZ; rw [e]; rfl
theorem gJ {F : Fn} {r : LF} {σ : Sd} {h h1 h' : Hd} {ds : List D} {x : D} (a : r σ h = .ok ds h1) (b : F ds h1 = .exc x h') : au F r σ h = .exc x h' := by
  show Res.bind _ _ = _; rw [a]; exact b
theorem ju {e : EF} {σ : Sd} {h h' : Hd} {x : D} (p : e σ h = .exc x h') : dJ e σ h = .exc x σ h' := by show outE _ _ _ = _; rw [p]; rfl
theorem ES {g : Option Nat} {all : List D} {tg : GF} {b : SF} {x : D} {xs : List D} {σ σ' : Sd} {h h' : Hd} {d : D} (hh : iK g all h) (t : tg x σ = some σ') (e : b σ' h = .rt d h') : eA g all tg b (x :: xs) σ h = .rt d h' := by
  rw [eA, if_pos hh, t]; simp only [e]
theorem zE {g : Option Nat} {all : List D} {tg : GF} {b : SF} {x : D} {xs : List D} {σ σ' σ'' : Sd} {h h' : Hd} (hh : iK g all h) (t : tg x σ = some σ') (e : b σ' h = .nx σ'' h') : eA g all tg b (x :: xs) σ h = eA g all tg b xs σ'' h' := by
  rw [eA, if_pos hh, t]; simp only [e]
theorem zF {t : TF} {a b : SF} {σ : Sd} {h h' : Hd} (e : t σ h = .ok true h') : iZ t a b σ h = a σ h' := by unfold iZ; rw [e]; rfl
def Dg (d : D) (h : Hd) : Prop := a0 [d] h = .ok (.bl false) h
theorem zG {d : D} {h : Hd} (e : bR [d] h = .ok (.bl false) h) : Dg d h :=
  (b6 rfl rfl (bg (ar (af rfl (cf rfl rfl)) ((b6 rfl rfl (bg (iH (jp (aQ (ar (af rfl rfl) e)))))).trans aG)))).trans aG
theorem zH (b : Bool) (h : Hd) : Dg (.bl b) h := zG ((b6 rfl rfl (bg (iH (eP (aQ rfl) (bT (b := true) (aQ rfl)))))).trans aG)
theorem kN {d : D} {h : Hd} (e : dR .int (aa 0) [some d] h = .ok (.bl false) h) : Dg d h := zG ((b6 rfl rfl (bg (iH (jp (aQ e))))).trans aG)
theorem FI {v : Int} (hv : v = 0 ∨ v = 1) (h : Hd) : a0 [.int v] h = .ok (.bl true) h := by
  rw [b9]; rcases hv with rfl | rfl <;> rfl
def Dh (w : Web) (i : Nat) (x : D) : Prop := ∃ v : Int, x = .int v ∧ (v = 0 ∨ v = 1) ∧ (w.stays[i]? = some none ∨ w.stays[i]? = some (some v))
def Bad (w : Web) (i : Nat) (x : D) (h : Hd) : Prop := Dg x h ∨ ∃ v z : Int, x = .int v ∧ (v = 0 ∨ v = 1) ∧ w.stays[i]? = some (some z) ∧ v ≠ z
theorem ET {w : Web} {T x : D} {i : Nat} (g : Dh w i x) (c : Option D) (h : Hd) : ∃ c', kJ [some w.enc, some T, some (.int i), some x, c] h = .nx [some w.enc, some T, some (.int i), some x, c'] h := by
  obtain ⟨v, rfl, hv, hs⟩ := g
  have s1 : sIf (cH (tE (au a0 (ad (aa 3) ao)))) (bb (fC (.bl false))) bn [some w.enc, some T, some (.int i), some (.int v), c] h = .nx [some w.enc, some T, some (.int i), some (.int v), c] h := cF (bT (aQ (ar (af rfl rfl) (FI hv h))))
  rcases hs with hs | hs
  · exact ⟨_, (aM s1).trans ((aM (aJ (ar (af rfl (af rfl rfl)) (dY w h hs)))).trans (cF (jp (aQ (am rfl rfl rfl)))))⟩
  · exact ⟨_, (aM s1).trans ((aM (aJ (ar (af rfl (af rfl rfl)) (dY w h hs)))).trans (cF (eP (aQ (am rfl rfl rfl)) (aQ (am rfl rfl (by rw [show bO (some v) = D.int v from rfl, kc, decide_eq_true rfl]; rfl))))))⟩
theorem AA {w : Web} {T x : D} {i : Nat} {h : Hd} (b : Bad w i x h) (c : Option D) : kJ [some w.enc, some T, some (.int i), some x, c] h = .rt (.bl false) h := by
  rcases b with no | ⟨v, z, rfl, hv, hs, ne⟩
  · exact kI ((kb (bT (aQ (ar (af rfl rfl) no)))).trans (bg rfl))
  · have s1 : sIf (cH (tE (au a0 (ad (aa 3) ao)))) (bb (fC (.bl false))) bn [some w.enc, some T, some (.int i), some (.int v), c] h = .nx [some w.enc, some T, some (.int i), some (.int v), c] h := cF (bT (aQ (ar (af rfl rfl) (FI hv h))))
    exact (aM s1).trans ((aM (aJ (ar (af rfl (af rfl rfl)) (dY w h hs)))).trans ((kb (eP (aQ (am rfl rfl rfl)) (aQ (am rfl rfl (by rw [show bO (some z) = D.int z from rfl, kc, decide_eq_false ne]; rfl))))).trans (bg rfl)))
theorem rV {w : Web} {T : D} {h : Hd} (all : List D) : ∀ (M : List D) (k : Nat) (a b c : Option D), (∀ i x, M[i]? = some x → Dh w (k + i) x ∨ Bad w (k + i) x h) → (∃ i x, M[i]? = some x ∧ Bad w (k + i) x h) →
    eA none all (gT [2, 3]) kJ (((List.range' k M.length).zip M).map fun p => D.tup [.int (p.1 : Nat), p.2]) [some w.enc, some T, a, b, c] h = .rt (.bl false) h
  | [], k, a, b, c, _, ⟨i, x, e, _⟩ => by cases i <;> cases e
  | x :: M, k, a, b, c, al, ⟨i, y, e, bd⟩ => by
    rw [List.length_cons, List.range'_succ, List.zip_cons_cons, List.map_cons]
    by_cases bx : Bad w k x h
    · exact ES (by trivial) rfl (AA bx c)
    · have g : Dh w k x := ((al 0 x rfl).resolve_right bx)
      obtain ⟨c', q⟩ := ET (T := T) g c h
      refine (zE (by trivial) rfl q).trans (rV all M (k + 1) _ _ _ (fun i x e => ?_) ?_)
      · have := al (i + 1) x e
        rwa [← Nat.add_assoc, Nat.add_right_comm] at this
      · cases i with
        | zero => cases e; exact absurd bd bx
        | succ i => exact ⟨i, y, e, by rwa [← Nat.add_assoc, Nat.add_right_comm] at bd⟩
theorem zI {w : Web} {n : Nat} (W : w.Ok n) {L : List D} (hl : L.length = n) {h : Hd} (al : ∀ i x, L[i]? = some x → Dh w i x ∨ Bad w i x h) (ex : ∃ i x, L[i]? = some x ∧ Bad w i x h) : cM [w.enc, .tup L] h = .ok (.bl false) h := by
  have lp := rV (T := .tup L) (((List.range L.length).zip L).map fun p => D.tup [.int (p.1 : Nat), p.2]) L 0 none none none (fun i x e => by rw [Nat.zero_add]; exact al i x e) (by obtain ⟨i, x, e, b⟩ := ex; exact ⟨i, x, e, by rw [Nat.zero_add]; exact b⟩)
  rw [← List.range_eq_range'] at lp
  have s1 : sIf (tOr (cH (tE (dR .tuple (aa 1)))) (tE (aj oNe (dA (lOf (aa 1))) (au cD (ad (aa 0) ao))))) (bb (fC (.bl false))) bn [some w.enc, some (.tup L), none, none, none] h = .nx [some w.enc, some (.tup L), none, none, none] h :=
    cF (fV (bT (b := true) (aQ rfl)) (aQ (am (dh (cL rfl rfl)) (ar (af rfl rfl) (fW w h)) (by rw [kc, hl, W.t, decide_eq_true rfl]; rfl))))
  exact (b6 rfl rfl ((aM s1).trans (kI (i4 rfl lp)))).trans aG
theorem fg {w : Web} {d : D} {h : Hd} (e : sT h .tuple d = some false) : cM [w.enc, d] h = .ok (.bl false) h := by
  have q : dR .tuple (aa 1) [some w.enc, some d, none, none, none] h = .ok (.bl false) h := by
    show Res.bind (.ok d h) _ = _
    simp only [aI, e]
  exact (b6 rfl rfl (kI ((kb (w9 (bT (aQ q)))).trans (bg rfl)))).trans aG
theorem fj {w : Web} {n : Nat} (W : w.Ok n) {l : List D} (hl : l.length ≠ n) (h : Hd) : cM [w.enc, .tup l] h = .ok (.bl false) h := by
  have s1 : sIf (tOr (cH (tE (dR .tuple (aa 1)))) (tE (aj oNe (dA (lOf (aa 1))) (au cD (ad (aa 0) ao))))) (bb (fC (.bl false))) bn [some w.enc, some (.tup l), none, none, none] h = .rt (.bl false) h :=
    (kb (fV (bT (b := true) (aQ rfl)) (aQ (am (dh (cL rfl rfl)) (ar (af rfl rfl) (fW w h)) (by rw [kc, W.t, decide_eq_false (show ¬ (l.length : Int) = (n : Int) from fun z => hl (Int.ofNat.inj z))]; rfl))))).trans (bg rfl)
  exact (b6 rfl rfl (kI s1)).trans aG
abbrev NSx : D := .exn "NoStand" []
theorem lF {w : Web} {d : D} {h : Hd} (e : cM [w.enc, d] h = .ok (.bl true) h) : bw [w.enc, d] h = .ok .non h :=
  (IE rfl rfl (kf (bT (aQ (ar (af rfl (af rfl rfl)) e))))).trans aG
theorem AB {w : Web} {d : D} {h : Hd} (e : cM [w.enc, d] h = .ok (.bl false) h) : bw [w.enc, d] h = .exc NSx h :=
  tS rfl rfl (ER (bT (aQ (ar (af rfl (af rfl rfl)) e))))
theorem Di (l : List D) {p : Nat} (hp : p < l.length) : cut l none (some (p : Int)) = l.take p := by
  unfold cut
  show List.take (sIx l.length l.length (some (p : Int)) - 0) (l.drop 0) = _
  have e : sIx l.length l.length (some (p : Int)) = p := by
    show (if (p : Int) < 0 then ((p : Int) + (l.length : Nat)).toNat else min ((p : Int)).toNat l.length) = p
    rw [if_neg (Int.not_lt.mpr (Int.natCast_nonneg p))]
    exact Nat.min_eq_left (Nat.le_of_lt hp)
  rw [e]; rfl
theorem Dj (l : List D) {p : Nat} (hp : p < l.length) : cut l (some ((p : Int) + 1)) none = l.drop (p + 1) := by
  have e : sIx l.length 0 (some ((p : Int) + 1)) = p + 1 := by
    show (if ((p : Int) + 1) < 0 then ((p : Int) + 1 + (l.length : Nat)).toNat else min ((p : Int) + 1).toNat l.length) = p + 1
    rw [if_neg (show ¬ ((p : Int) + 1 < 0) by omega)]
    exact Nat.min_eq_left hp
  unfold cut
  rw [e]
  exact List.take_of_length_le (by rw [List.length_drop]; exact Nat.le_refl _)
theorem nV {a : EF} {hi : EF} {σ : Sd} {h : Hd} {l : List D} {p : Nat} (v : a σ h = .ok (.tup l) h) (w : hi σ h = .ok (.int p) h) (hp : p < l.length) : bf a pNo (pAt hi) σ h = .ok (.tup (l.take p)) h := by
  have c := Di l hp
  have e : sIx l.length l.length (some (p : Int)) = p := by
    show (if (p : Int) < 0 then ((p : Int) + (l.length : Nat)).toNat else min ((p : Int)).toNat l.length) = p
    rw [if_neg (Int.not_lt.mpr (Int.natCast_nonneg p))]
    exact Nat.min_eq_left (Nat.le_of_lt hp)
  simp only [bf, v, aI, pNo, pAt, w, c, e]
  rw [if_neg (fun z => Nat.ne_of_lt hp z.2)]
theorem kg {a : EF} {lo : EF} {σ : Sd} {h : Hd} {l : List D} {p : Nat} (v : a σ h = .ok (.tup l) h) (w : lo σ h = .ok (.int ((p : Int) + 1)) h) (hp : p < l.length) : bf a (pAt lo) pNo σ h = .ok (.tup (l.drop (p + 1))) h := by
  have c := Dj l hp
  have e : sIx l.length 0 (some ((p : Int) + 1)) = p + 1 := by
    show (if ((p : Int) + 1) < 0 then ((p : Int) + 1 + (l.length : Nat)).toNat else min ((p : Int) + 1).toNat l.length) = p + 1
    rw [if_neg (show ¬ ((p : Int) + 1 < 0) by omega)]
    exact Nat.min_eq_left hp
  simp only [bf, v, aI, pNo, pAt, w, c, e]
  rw [if_neg (fun z => absurd z.1 (Nat.succ_ne_zero p))]
theorem Dk {w : Web} {n : Nat} (W : w.Ok n) {s : List Int} (F : j9 w n s) {p : Nat} (hp : p < n) {d : D} {h : Hd} (b : Bad w p d h) : cM [w.enc, .tup ((s.map D.int).take p ++ [d] ++ (s.map D.int).drop (p + 1))] h = .ok (.bl false) h := by
  have hl : (s.map D.int).length = n := by rw [List.length_map, F.len]
  have lt : ((s.map D.int).take p).length = p := by rw [List.length_take, hl]; exact Nat.min_eq_left (Nat.le_of_lt hp)
  have good : ∀ i x, (s.map D.int)[i]? = some x → Dh w i x := fun i x e => by
    have hi : i < s.length := by rw [← List.length_map (f := D.int)]; exact (List.getElem?_eq_some_iff.mp e).1
    rw [List.getElem?_map, List.getElem?_eq_getElem hi] at e
    cases e
    have h2 : i < w.stays.length := by rw [W.s, ← F.len]; exact hi
    refine ⟨s[i], rfl, F.op _ (List.getElem_mem hi), ?_⟩
    rw [List.getElem?_eq_getElem h2]
    cases c : w.stays[i] with
    | none => exact .inl rfl
    | some z =>
      have := F.st i z (by rw [List.getElem?_eq_getElem h2, c])
      rw [List.getElem?_eq_getElem hi] at this
      cases this
      exact .inr rfl
  refine zI W ?_ (fun i x e => ?_) ⟨p, d, ?_, b⟩
  · rw [List.length_append, List.length_append, lt, List.length_drop, hl]
    show p + 1 + (n - (p + 1)) = n
    exact Nat.add_sub_of_le hp
  · rw [List.append_assoc] at e
    by_cases i1 : i < p
    · rw [List.getElem?_append_left (by rw [lt]; exact i1), List.getElem?_take_of_lt i1] at e
      exact .inl (good i x e)
    · rw [List.getElem?_append_right (by rw [lt]; exact Nat.not_lt.mp i1), lt] at e
      by_cases i2 : i = p
      · rw [i2, Nat.sub_self] at e
        cases e
        rw [i2]; exact .inr b
      · obtain ⟨k, rfl⟩ := Nat.exists_eq_add_of_lt (Nat.lt_of_le_of_ne (Nat.not_lt.mp i1) (Ne.symm i2))
        rw [show p + k + 1 - p = k + 1 by omega] at e
        have e : ((s.map D.int).drop (p + 1))[k]? = some x := e
        rw [List.getElem?_drop] at e
        exact .inl (good _ x (by rw [show p + k + 1 = p + 1 + k by omega]; exact e))
  · rw [List.append_assoc, List.getElem?_append_right (by rw [lt]; exact Nat.le_refl _), lt, Nat.sub_self]; rfl
theorem tU {xs ys : List D} {h : Hd} (p : xs.length + ys.length ≤ SZ) : bZ (.tup xs) (.tup ys) h = .ok (.tup (xs ++ ys)) h := by simp only [bZ, if_pos p]
theorem EU {a b : EF} {σ : Sd} {h h1 h2 : Hd} {n m : Nat} {l k : List D} (p : a σ h = .ok (.ref n) h1) (q : b σ h1 = .ok (.ref m) h2) (r : h2[n]? = some (.lst l)) (s : h2[m]? = some (.lst k)) (t : l.length + k.length ≤ SZ) : rH a b σ h = .ok (l ++ k) h2 := by
  simp only [rH, p, aI, q, r, s, if_pos t]
theorem iJ {α : Type} {f : Sd → Hd → Res α} {σ : Sd} {h h' : Hd} {x : α} (p : f σ h = .ok x h') : fPl f σ h = .ok x h' := by unfold fPl; rw [p]; rfl
theorem Dl {f : SF} {σ : Sd} {h h' : Hd} {d : D} (p : f σ h = .rt d h') : sPl f σ h = .rt d h' := by unfold sPl; rw [p]
theorem Hg {n i : Nat} {cs : List String} {b : SF} {σ σ' : Sd} {h h' : Hd} (p : b σ h = .nx σ' h') : va n i cs b σ h = .nx σ' h' := by unfold va; rw [p]
theorem Hh {n i : Nat} {cs : List String} {b : SF} {σ σ' : Sd} {h h' : Hd} {c : String} (p : b σ h = .exc (.exn c []) σ' h') (q : c ∈ cs) : va n i cs b σ h = .nx ((List.replicate n none).set i (some (.exn c []))) h' := by unfold va; rw [p]; exact if_pos q
theorem xq {tb : List (String × Bool)} {a : EF} {σ : Sd} {h h1 : Hd} {c : String} {l : List D} {b : Bool} (p : a σ h = .ok (.exn c l) h1) (q : tb.lookup c = some b) : wY tb a σ h = .ok (.bl b) h1 := by
  unfold wY; rw [p, aI]; simp only [isX, q]
theorem zJ {g : Option Nat} {all : List D} {tg : GF} {B : SF} {σ : Option D → Sd} {h : Hd} (hh : iK g all h) (ht : ∀ x a, tg x (σ a) = some (σ (some x))) : ∀ {xs : List D} (a : Option D), (∀ x ∈ xs, B (σ (some x)) h = .nx (σ (some x)) h) → ∃ a', eA g all tg B xs (σ a) h = .nx (σ a') h
  | [], a, _ => ⟨a, by rw [eA, if_pos hh]⟩
  | x :: xs, a, q => by
    obtain ⟨a', e⟩ := zJ hh ht (xs := xs) (some x) fun y hy => q y (List.mem_cons_of_mem _ hy)
    exact ⟨a', (zE hh (ht x a) (q x List.mem_cons_self)).trans e⟩
end Fm
set_option linter.all false
namespace Fm
theorem mV (x : Int) {m : Nat} (hm : 1 ≤ m) : ∃ q : Nat, x % m = q ∧ q < m := ⟨(x % m).toNat, by have := Int.emod_nonneg x (show (m : Int) ≠ 0 by omega); omega, by have := Int.emod_lt_of_pos x (show (0 : Int) < m by omega); omega⟩
theorem EV {α : Type} (f : α → D) (d : α) {l : List α} {i : Nat} (h : i < l.length) : atI (l.map f) (i : Int) = some (f (l.getD i d)) := cI (by rw [List.getElem?_map, List.getElem?_eq_getElem h, List.getD_eq_getElem?_getD, List.getElem?_eq_getElem h]; rfl)
def Nf (w : Web) (h : Hd) (d : D) : Prop := (∀ g, cM [w.enc, d] g = .ok (.bl false) g) ∨ (∃ k l, d = .ref k ∧ h[k]? = some (.lst l)) ∨ ∃ k l, d = .ref k ∧ h[k]? = some (.dct l)
theorem Nf.fits {w : Web} {h : Hd} {d : D} (f : Nf w h d) : cM [w.enc, d] h = .ok (.bl false) h := by
  rcases f with f | ⟨k, l, rfl, e⟩ | ⟨k, l, rfl, e⟩
  · exact f h
  · exact fg (by simp only [sT, e]; rfl)
  · exact fg (by simp only [sT, e])
theorem lG {h g : Hd} {d : D} : ∃ g', letGo h (.ok d (h ++ g)) = .ok d (h ++ g') ∧ (g' = g ∨ pure? d = true) := by
  unfold letGo
  simp only
  split
  · rename_i z
    exact ⟨[], by rw [List.take_left, List.append_nil], .inr z.1⟩
  · exact ⟨g, rfl, .inl rfl⟩
theorem zK {xs ys : List D} {h : Hd} (q : 0 < xs.length) (p : xs.length + ys.length ≤ SZ) : bJ (.tup xs) (.tup ys) h = .ok (.tup (xs ++ ys)) h := by
  cases xs with
  | nil => cases q
  | cons x xs => exact if_pos p
def AC (s : List Int) (p : Nat) (d : D) : D := .tup ((s.map D.int).take p ++ [d] ++ (s.map D.int).drop (p + 1))
theorem mW {a i j e : EF} {σ : Sd} {h h' : Hd} {n p : Nat} {s : List Int} {d : D} (ls : s.length = n) (hn : n ≤ 30) (hp : p < n) (v : ∀ h, a σ h = .ok (aH s) h) (vi : ∀ h, i σ h = .ok (.int p) h) (vj : ∀ h, j σ h = .ok (.int ((p : Int) + 1)) h) (ve : e σ h = .ok d h') :
    aj bZ (aj bZ (bf a pNo (pAt i)) (cj (ad e ao))) (bf a (pAt j) pNo) σ h = .ok (AC s p d) h' := by
  have hl : (s.map D.int).length = n := by rw [List.length_map, ls]
  have z1 : ((s.map D.int).take p).length + 1 ≤ SZ := Nat.le_trans (Nat.succ_le_succ (Nat.le_trans (List.length_take_le' _ _) (Nat.le_trans (Nat.le_of_eq hl) hn))) (by decide)
  have z2 : ((s.map D.int).take p ++ [d]).length + ((s.map D.int).drop (p + 1)).length ≤ SZ := by
    rw [List.length_append, List.length_drop, hl]
    exact Nat.le_trans (Nat.add_le_add (Nat.succ_le_succ (Nat.le_trans (List.length_take_le' _ _) (Nat.le_trans (Nat.le_of_eq hl) hn))) (Nat.le_trans (Nat.sub_le _ _) hn)) (by decide)
  exact am (am (nV (v h) (vi h) (by rw [hl]; exact hp)) (fG (af ve rfl)) (tU z1)) (kg (v h') (vj h') (by rw [hl]; exact hp)) (tU z2)
theorem vw {n p : Nat} {s : List Int} (ls : s.length = n) (hp : p < n) (v : Int) : AC s p (.int v) = aH (s.set p v) := by
  unfold AC aH
  rw [List.set_eq_take_append_cons_drop, if_pos (by rw [ls]; exact hp), List.map_append, List.map_cons, List.map_take, List.map_drop, List.append_assoc]
  rfl
section
variable {w : Web} {n : Nat} {s : List Int}
theorem zL (W : w.Ok n) (F : j9 w n s) {p : Nat} (hp : p < n) {d : D} (b : ∀ h, Bad w p d h) (h : Hd) : Nf w h (AC s p d) := .inl fun g => Dk W F hp (b g)
noncomputable abbrev XB (s : List Int) (sk : Nat) (x at_ : Int) (a b c d : Option D) : Sd := [some (aH s), some (.ref sk), some (.int x), some (.int at_), a, b, c, d]
def od8 : List D := [.int 2, .int (-1), .bl true, .bl false, .non, .str [49], .tup [.int 1], .int (10 ^ 30)]
theorem Jw {d : D} (hd : d ∈ od8) (h : Hd) : Dg d h := by
  rcases hd with _ | ⟨_, _ | ⟨_, _ | ⟨_, _ | ⟨_, _ | ⟨_, _ | ⟨_, _ | ⟨_, _ | ⟨_, hd⟩⟩⟩⟩⟩⟩⟩⟩
  · exact b9 2 h
  · exact b9 (-1) h
  · exact zH _ h
  · exact zH _ h
  · exact kN rfl
  · exact kN rfl
  · exact kN rfl
  · exact (b9 _ h).trans (by rw [decide_eq_false (show ¬ (10 : Int) ^ 30 ≤ 1 by decide), Bool.and_false])
  · cases hd
theorem AD (f : Int → List Nat) (l : List Int) : kG (l.map fun i => D.str (f i)) = some (l.map f) := by
  induction l with
  | nil => rfl
  | cons x l ih => rw [List.map_cons, kG, ih]; rfl
theorem AE {x : Int} (h : x = 0 ∨ x = 1) : (kF (toString x)).length = 1 := by rcases h with rfl | rfl <;> decide
theorem Hi (W : w.Ok n) (F : j9 w n s) (n1 : 1 ≤ n) (hn : n ≤ 30) {h : Hd} {sk : Nat} (hs : h[sk]? = some (.lst (w.stays.map bO))) (x at_ : Int) :
    ∃ d g, jt [aH s, .ref sk, .int x, .int at_] h = .ok d (h ++ g) ∧ Nf w (h ++ g) d := by
  obtain ⟨A, hA⟩ : ∃ A, A = h.length := ⟨_, rfl⟩
  have ls := F.len
  have hl : (s.map D.int).length = n := by rw [List.length_map, ls]
  have z30 : (s.map D.int).length ≤ SZ := by rw [hl]; exact Ar hn
  obtain ⟨p, hp, pn⟩ := mV at_ n1
  have ln : ∀ (σ : Sd) (g : Hd), aa 0 σ g = .ok (aH s) g → dA (lOf (aa 0)) σ g = .ok (.int n) g := fun σ g v => (dh (cL v rfl)).trans (by rw [hl])
  have s4 : aR (gN 4) (aj cE (aa 3) (dA (lOf (aa 0)))) (XB s sk x at_ none none none none) h = .nx (XB s sk x at_ (some (.int p)) none none none) h := by
    rw [← hp]; exact aJ (am rfl (ln _ _ rfl) (em (Int.natCast_pos.mpr n1)))
  obtain ⟨St, hSt⟩ : ∃ St : List D, St = ((List.range n).map fun k : Nat => D.int k).filter fun d => match d with | .int k => !jM (bO (w.stays.getD k.toNat none)) | _ => false := ⟨_, rfl⟩
  have c5 : cw none ((List.range n).map fun k : Nat => D.int k) (gN 0) [(tE (aj ee (fAt (aa 1) (aa 0)) (fC .non)))] (aa 0) ((List.range n).map fun k : Nat => D.int k) [none, some (.ref sk)] h = .ok St h := by
    have := b0 (g := none) (all := (List.range n).map fun k : Nat => D.int k) (tg := gN 0) (cs := [(tE (aj ee (fAt (aa 1) (aa 0)) (fC .non)))]) (e := aa 0) (h := h) (I := fun σ => ∃ a, σ = [a, some (.ref sk)]) (fun d => match d with | .int k => !jM (bO (w.stays.getD k.toNat none)) | _ => false) (fun d => d) trivial (xs := (List.range n).map fun k : Nat => D.int k) (σ := [none, some (.ref sk)]) (by
      rintro y hy σ ⟨a, rfl⟩
      obtain ⟨k, hk, rfl⟩ := List.mem_map.mp hy
      have hk := List.mem_range.mp hk
      exact ⟨_, rfl, ⟨_, rfl⟩, lE (aQ (am (bq rfl rfl (bP hs) (EV bO none (W.s ▸ hk))) rfl rfl)), fun _ => rfl⟩) ⟨_, rfl⟩
    rw [this, List.map_id', hSt]
  have lSt : St.length ≤ n := by rw [hSt]; exact Nat.le_trans (List.length_filter_le _ _) (by rw [List.length_map, List.length_range]; exact Nat.le_refl _)
  have mSt : ∀ d ∈ St, ∃ q : Nat, d = .int q ∧ q < n ∧ ∃ z, w.stays[q]? = some (some z) := fun d hd => by
    rw [hSt] at hd
    obtain ⟨h1, h2⟩ := List.mem_filter.mp hd
    obtain ⟨q, hq, rfl⟩ := List.mem_map.mp h1
    have hq := List.mem_range.mp hq
    have h2 : (!jM (bO (w.stays.getD q none))) = true := h2
    refine ⟨q, rfl, hq, ?_⟩
    rw [List.getElem?_eq_getElem (W.s ▸ hq)]
    rw [List.getD_eq_getElem?_getD, List.getElem?_eq_getElem (W.s ▸ hq), Option.getD_some] at h2
    cases e : w.stays[q]'(W.s ▸ hq) with
    | none => rw [e] at h2; cases h2
    | some z => exact ⟨z, rfl⟩
  have s5 : aR (gN 5) (cy (cg 1 [1] (cq (dA (lOf (aa 0)))) (gN 0) [(tE (aj ee (fAt (aa 1) (aa 0)) (fC .non)))] (aa 0))) (XB s sk x at_ (some (.int p)) none none none) h = .nx (XB s sk x at_ (some (.int p)) (some (.ref A)) none none) (h ++ [.lst St]) :=
    aJ (zz hA (dH (dD (ln _ _ rfl) (Ar hn)) c5) (Nat.le_trans lSt (Ar hn)))
  have gA : ∀ g, (h ++ ([.lst St] ++ g))[A]? = some (.lst St) := fun g => by have := eX (g := [.lst St] ++ g) hA 0; rwa [Nat.add_zero] at this
  have x3 : ∀ (j : Int) (σ : Sd) (g : Hd), aa 2 σ g = .ok (.int x) g → tE (aj oEq (aj cE (aa 2) (fC (.int 3))) (fC (.int j))) σ g = .ok (decide (x % 3 = j)) g := fun j σ g v => aQ (am (am v rfl (em (by decide))) rfl rfl)
  have s6 : (∃ d g, sIf (fY (tE (aj oEq (aj cE (aa 2) (fC (.int 3))) (fC (.int 0)))) (tE (aj oNe (aa 5) (cy ao)))) (aE (aR (gN 4) (fAt (aa 5) (aj cE (aa 3) (dA (lOf (aa 5))))))
    (bb (aj bZ (aj bZ (bf (aa 0) pNo (pAt (aa 4))) (cj (ad (aj sS (fC (.int 1)) (fAt (aa 0) (aa 4))) ao))) (bf (aa 0) (pAt (aj bJ (aa 4) (fC (.int 1)))) pNo)))) bn (XB s sk x at_ (some (.int p)) (some (.ref A)) none none) (h ++ [.lst St]) = .rt d (h ++ g) ∧ (∀ g, Nf w g d)) ∨
      ∃ g, sIf (fY (tE (aj oEq (aj cE (aa 2) (fC (.int 3))) (fC (.int 0)))) (tE (aj oNe (aa 5) (cy ao)))) (aE (aR (gN 4) (fAt (aa 5) (aj cE (aa 3) (dA (lOf (aa 5))))))
    (bb (aj bZ (aj bZ (bf (aa 0) pNo (pAt (aa 4))) (cj (ad (aj sS (fC (.int 1)) (fAt (aa 0) (aa 4))) ao))) (bf (aa 0) (pAt (aj bJ (aa 4) (fC (.int 1)))) pNo)))) bn (XB s sk x at_ (some (.int p)) (some (.ref A)) none none) (h ++ [.lst St]) = .nx (XB s sk x at_ (some (.int p)) (some (.ref A)) none none) (h ++ g) := by
    by_cases c : x % 3 = 0
    · have t1 := x3 0 (XB s sk x at_ (some (.int p)) (some (.ref A)) none none) (h ++ [.lst St]) rfl
      rw [decide_eq_true c] at t1
      have nw : cy ao (XB s sk x at_ (some (.int p)) (some (.ref A)) none none) (h ++ [.lst St]) = .ok (.ref (A + 1)) (h ++ [.lst St, .lst []]) := mP (g := [.lst St]) (xs := []) hA rfl (Nat.zero_le _)
      have a1 : (h ++ [.lst St, .lst []])[A]? = some (.lst St) := gA [.lst []]
      have a2 : (h ++ [.lst St, .lst []])[A + 1]? = some (.lst []) := eX hA 1
      cases hS : St with
      | nil =>
        rw [hS] at a1
        have on : oNe (.ref A) (.ref (A + 1)) (h ++ [.lst [], .lst []]) = .ok (.bl false) (h ++ [.lst [], .lst []]) := by
          rw [hS] at a2
          simp only [oNe, eqG, fP, a1, a2]; rfl
        rw [hS] at t1 nw
        exact .inr ⟨_, cF (eP (b := false) t1 (aQ (am rfl nw on)))⟩
      | cons d0 r0 =>
        rw [← hS]
        have lS1 : 1 ≤ St.length := by rw [hS]; exact Nat.succ_le_succ (Nat.zero_le _)
        have dS : nn St ≤ 20 := by
          have : ∀ l : List D, (∀ d ∈ l, ∃ i : Int, d = .int i) → nn l = 0 := fun l => by
            induction l with
            | nil => intro _; rfl
            | cons d l ih =>
              intro h
              obtain ⟨i, rfl⟩ := h d List.mem_cons_self
              rw [nn, ih fun x hx => h x (List.mem_cons_of_mem _ hx)]; rfl
          rw [this St fun d hd => by obtain ⟨q, e, _⟩ := mSt d hd; exact ⟨_, e⟩]; exact Nat.zero_le _
        have on : oNe (.ref A) (.ref (A + 1)) (h ++ [.lst St, .lst []]) = .ok (.bl true) (h ++ [.lst St, .lst []]) := by
          have e : eqL St [] = some false := by
            unfold eqL
            rw [if_pos dS, if_neg (by rw [hS]; exact Nat.succ_ne_zero _)]
          simp only [oNe, eqG, fP, a1, a2, e]; rfl
        obtain ⟨q, hq, q1⟩ := mV at_ lS1
        have eq : St[q]? = some (St[q]'q1) := List.getElem?_eq_getElem q1
        obtain ⟨r, er, rn, z, hz⟩ := mSt _ (List.getElem_mem q1)
        rw [er] at eq
        have t4 : aR (gN 4) (fAt (aa 5) (aj cE (aa 3) (dA (lOf (aa 5))))) (XB s sk x at_ (some (.int p)) (some (.ref A)) none none) (h ++ [.lst St, .lst []]) = .nx (XB s sk x at_ (some (.int r)) (some (.ref A)) none none) (h ++ [.lst St, .lst []]) :=
          aJ (bq rfl (am rfl (dh (cL rfl (bP a1))) (em (Int.natCast_pos.mpr lS1))) (bP a1) (by rw [hq]; exact cI eq))
        have sr : s[r]? = some z := F.st r z hz
        have zb : z = 0 ∨ z = 1 := F.op z (List.mem_of_getElem? sr)
        have gz : s.getD r 0 = z := by rw [List.getD_eq_getElem?_getD, sr]; rfl
        refine .inl ⟨AC s r (.int (1 - z)), _, (kb (eP (b := true) t1 (aQ (am rfl nw on)))).trans ((aM t4).trans (bg (mW ls hn rn (fun _ => rfl) (fun _ => rfl) (fun _ => rfl) (am rfl (bq rfl rfl rfl (jr (by rw [ls]; exact rn))) (by rw [gz]; rfl))))), fun g => zL W F rn (fun h => .inr ⟨1 - z, z, rfl, by omega, hz, by omega⟩) g⟩
    · have t1 := x3 0 (XB s sk x at_ (some (.int p)) (some (.ref A)) none none) (h ++ [.lst St]) rfl
      rw [decide_eq_false c] at t1
      exact .inr ⟨_, cF (jp t1)⟩
  have st : ([aH s, D.ref sk, D.int x, D.int at_].map some ++ List.replicate (8 - [aH s, D.ref sk, D.int x, D.int at_].length) none : Sd) = XB s sk x at_ none none none none := rfl
  rcases s6 with ⟨d, g, s6, nf⟩ | ⟨g6, s6⟩
  · obtain ⟨g', lg, _⟩ := lG (h := h) (g := g) (d := d)
    exact ⟨d, g', (b6 rfl st ((aM s4).trans ((aM s5).trans (kI s6)))).trans lg, nf _⟩
  by_cases c : x % 3 = 1
  · -- an odd thing
    have t1 := x3 1 (XB s sk x at_ (some (.int p)) (some (.ref A)) none none) (h ++ g6) rfl
    rw [decide_eq_true c] at t1
    obtain ⟨q, hq, q8⟩ := mV (x / 3) (m := 8) (by decide)
    have l8 : od8.length = 8 := rfl
    have e8 : od8[q]? = some (od8[q]'(by rw [l8]; exact q8)) := List.getElem?_eq_getElem _
    obtain ⟨y, hy⟩ : ∃ y, y = od8[q]'(by rw [l8]; exact q8) := ⟨_, rfl⟩
    have my : y ∈ od8 := by rw [hy]; exact List.getElem_mem _
    rw [← hy] at e8
    have s10 : sml 10 = true := by decide
    have pw : ∀ (σ : Sd) (g : Hd), aj z7 (fC (.int 10)) (fC (.int 30)) σ g = .ok (.int (10 ^ 30)) g := fun σ g => by
      exact am rfl rfl (if_pos (e := .bad) (show (decide ((0 : Int) ≤ 30) && decide ((30 : Int) ≤ 1000000) && sml 10) = true by rw [s10]; rfl))
    have lst8 : ad (fC (.int 2)) (ad (fC (.int (-1))) (ad (fC (.bl true)) (ad (fC (.bl false)) (ad (fC .non) (ad (fC (.str [49])) (ad (cj (ad (fC (.int 1)) ao)) (ad (aj z7 (fC (.int 10)) (fC (.int 30))) ao))))))) (XB s sk x at_ (some (.int p)) (some (.ref A)) none none) (h ++ g6) = .ok od8 (h ++ g6) :=
      af rfl (af rfl (af rfl (af rfl (af rfl (af rfl (af (fG (af rfl rfl)) (af (pw _ _) rfl)))))))
    have md : aj cE (aj eU (aa 2) (fC (.int 3))) (fC (.int 8)) (XB s sk x at_ (some (.int p)) (some (.ref A)) none none) (h ++ g6) = .ok (.int q) (h ++ g6) := by
      rw [← hq]; exact am (am rfl rfl (nP (by decide) (by decide))) rfl (em (by decide))
    have s7 := (aM (b := bb (aj bZ (aj bZ (bf (aa 0) pNo (pAt (aa 4))) (cj (ad (aa 6) ao))) (bf (aa 0) (pAt (aj bJ (aa 4) (fC (.int 1)))) pNo))) (aJ (i := 6) (nN lst8 md (cI e8)))).trans (bg (mW ls hn pn (fun _ => rfl) (fun _ => rfl) (fun _ => rfl) rfl))
    obtain ⟨g', lg, _⟩ := lG (h := h) (g := g6) (d := AC s p y)
    exact ⟨_, g', (b6 rfl st ((aM s4).trans ((aM s5).trans ((aM s6).trans (kI ((kb t1).trans s7)))))).trans lg, zL W F pn (fun h => .inl (Jw my h)) _⟩
  · -- the twelve
    have t1 := x3 1 (XB s sk x at_ (some (.int p)) (some (.ref A)) none none) (h ++ g6) rfl
    rw [decide_eq_false c] at t1
    have s7 := cF (a := aE (aR (gN 6) (fIx (ad (fC (.int 2)) (ad (fC (.int (-1))) (ad (fC (.bl true)) (ad (fC (.bl false)) (ad (fC .non) (ad (fC (.str [49])) (ad (cj (ad (fC (.int 1)) ao)) (ad (aj z7 (fC (.int 10)) (fC (.int 30))) ao)))))))) (aj cE (aj eU (aa 2) (fC (.int 3))) (fC (.int 8)))))
    (bb (aj bZ (aj bZ (bf (aa 0) pNo (pAt (aa 4))) (cj (ad (aa 6) ao))) (bf (aa 0) (pAt (aj bJ (aa 4) (fC (.int 1)))) pNo)))) (b := bn) t1
    obtain ⟨B, hB⟩ : ∃ B, B = h ++ g6 := ⟨_, rfl⟩
    rw [← hB] at s6 s7
    obtain ⟨L, hL⟩ : ∃ L, L = B.length := ⟨_, rfl⟩
    obtain ⟨X, hX⟩ : ∃ X : Sd, X = XB s sk x at_ (some (.int p)) (some (.ref A)) none none := ⟨_, rfl⟩
    have v0 : ∀ g, aa 0 X g = .ok (aH s) g := fun g => by rw [hX]; rfl
    have v2 : ∀ (y : Option D) g, aa 2 (X.set 7 y) g = .ok (.int x) g := fun y g => by rw [hX]; rfl
    have v4 : ∀ g, aa 4 X g = .ok (.int p) g := fun g => by rw [hX]; rfl
    have w0 : ∀ (y : Option D) g, aa 0 (X.set 7 y) g = .ok (aH s) g := fun y g => by rw [hX]; rfl
    have w7 : ∀ (y : D) g, aa 7 (X.set 7 (some y)) g = .ok y g := fun y g => by rw [hX]; rfl
    obtain ⟨l5, hl5⟩ : ∃ l5 : List D, l5 = [.tup (s.map D.int ++ [.int 0]), .tup ((s.map D.int).drop 1), .tup ((s.map D.int).take p ++ (s.map D.int).drop (p + 1)), .ref L, .non] := ⟨_, rfl⟩
    have z2 : ((s.map D.int).take p).length + ((s.map D.int).drop (p + 1)).length ≤ SZ := by
      rw [List.length_drop, hl]
      exact Nat.le_trans (Nat.add_le_add (Nat.le_trans (List.length_take_le' _ _) (Nat.le_trans (Nat.le_of_eq hl) hn)) (Nat.le_trans (Nat.sub_le _ _) hn)) (by decide)
    have s8 : aR (gN 7) (cy (ad (aj bJ (aa 0) (cj (ad (fC (.int 0)) ao))) (ad (bf (aa 0) (pAt (fC (.int 1))) pNo) (ad (aj bZ (bf (aa 0) pNo (pAt (aa 4))) (bf (aa 0) (pAt (aj bJ (aa 4) (fC (.int 1)))) pNo)) (ad (cy (lOf (aa 0))) (ad (fC .non) ao)))))) X B = .nx (X.set 7 (some (.ref (L + 1)))) (B ++ [.lst (s.map .int), .lst l5]) := by
      have f1 : aj bJ (aa 0) (cj (ad (fC (.int 0)) ao)) X B = .ok (.tup (s.map D.int ++ [.int 0])) B := am (v0 _) (fG (af rfl rfl)) (zK (by rw [hl]; exact n1) (by rw [hl]; exact Nat.le_trans (Nat.succ_le_succ hn) (by decide)))
      have f2 : bf (aa 0) (pAt (fC (.int 1))) pNo X B = .ok (.tup ((s.map D.int).drop 1)) B := kg (p := 0) (v0 _) rfl (by rw [hl]; exact n1)
      have f3 : aj bZ (bf (aa 0) pNo (pAt (aa 4))) (bf (aa 0) (pAt (aj bJ (aa 4) (fC (.int 1)))) pNo) X B = .ok (.tup ((s.map D.int).take p ++ (s.map D.int).drop (p + 1))) B :=
        am (nV (v0 _) (v4 _) (by rw [hl]; exact pn)) (kg (v0 _) (am (v4 _) rfl rfl) (by rw [hl]; exact pn)) (tU z2)
      have f4 : cy (lOf (aa 0)) X B = .ok (.ref L) (B ++ [.lst (s.map .int)]) := zz hL (cL (v0 _) rfl) z30
      rw [hl5]
      exact aJ (mP (g := [.lst (s.map .int)]) hL (af f1 (af f2 (af f3 (af f4 (af rfl rfl))))) (by exact of_decide_eq_true rfl))
    obtain ⟨H1, hH1⟩ : ∃ H1 : Hd, H1 = B ++ [.lst (s.map .int), .lst l5] := ⟨_, rfl⟩
    rw [← hH1] at s8
    have g1 : H1[L + 1]? = some (.lst l5) := by rw [hH1]; exact eX hL 1
    have jn : ∃ t : List Nat, zw (cg 1 [] (hJ (aa 0)) (gN 0) [] (An (aa 0))) (X.set 7 (some (.ref (L + 1)))) H1 = .ok (.str t) H1 := by
      have cp : cw none (s.map D.int) (gN 0) [] (An (aa 0)) (s.map D.int) [none] H1 = .ok (s.map fun i => D.str (kF (toString i))) H1 := by
        have := b0 (g := none) (all := s.map D.int) (tg := gN 0) (cs := []) (e := An (aa 0)) (h := H1) (I := fun σ => ∃ a, σ = [a]) (fun _ => true) (fun d => match d with | .int i => .str (kF (toString i)) | _ => .non) trivial (xs := s.map D.int) (σ := [none]) (by
          rintro y hy σ ⟨a, rfl⟩
          obtain ⟨i, hi, rfl⟩ := List.mem_map.mp hy
          refine ⟨_, rfl, ⟨_, rfl⟩, rfl, fun _ => ?_⟩
          show (if -1000000 ≤ i ∧ i ≤ 1000000 then Res.ok (D.str (kF (toString i))) H1 else .bad) = _
          rw [if_pos (by rcases F.op i hi with rfl | rfl <;> decide)]) ⟨_, rfl⟩
        rw [this, List.filter_eq_self.mpr (fun _ _ => rfl), List.map_map]
        rfl
      refine ⟨(s.map fun i => kF (toString i)).flatten, ?_⟩
      · show Res.bind (cg _ _ _ _ _ _ _ _) _ = _
        rw [dH (vf (w0 _ _)) cp, aI, AD]
        show (if _ then _ else _) = _
        refine if_pos ?_
        rw [List.map_map]
        have : ∀ l : List Int, (∀ x ∈ l, x = 0 ∨ x = 1) → (l.map ((fun x : List Nat => x.length) ∘ fun i => kF (toString i))).sum = l.length := fun l => by
          induction l with
          | nil => intro _; rfl
          | cons y l ih =>
            intro hh
            rw [List.map_cons, List.sum_cons, ih fun x hx => hh x (List.mem_cons_of_mem _ hx)]
            show (kF (toString y)).length + _ = _
            rw [AE (hh y List.mem_cons_self), List.length_cons, Nat.add_comm]
        rw [this s F.op, ls]; exact Ar hn
    obtain ⟨t, jn⟩ := jn
    have s9 : dJ (mH (aa 7) (zw (cg 1 [] (hJ (aa 0)) (gN 0) [] (An (aa 0))))) (X.set 7 (some (.ref (L + 1)))) H1 = .nx (X.set 7 (some (.ref (L + 1)))) (B ++ [.lst (s.map .int), .lst (l5 ++ [.str t])]) := by
      rw [fH (xa (w7 _ _) g1 jn g1 (by rw [hl5]; exact of_decide_eq_true rfl)), hH1, mQ hL 1]; rfl
    obtain ⟨l6, hl6⟩ : ∃ l6 : List D, l6 = [.tup (s.map D.int ++ [.int (s.getD 0 0)]), .tup [], .int 5, .ref (L + 2), .tup [aH s], .bl true] := ⟨_, rfl⟩
    obtain ⟨G, hG⟩ : ∃ G : Hd, G = [.lst (s.map .int), .lst (l5 ++ [.str t]), .dct [], .lst l6, .lst (l5 ++ [.str t] ++ l6)] := ⟨_, rfl⟩
    have nw : cy (rH (aa 7) (cy (ad (aj bJ (aa 0) (cj (ad (fAt (aa 0) (fC (.int 0))) ao))) (ad (cj ao) (ad (fC (.int 5)) (ad iF (ad (cj (ad (aa 0) ao)) (ad (fC (.bl true)) ao)))))))) (X.set 7 (some (.ref (L + 1)))) (B ++ [.lst (s.map .int), .lst (l5 ++ [.str t])]) = .ok (.ref (L + 4)) (B ++ G) := by
      have f1 : aj bJ (aa 0) (cj (ad (fAt (aa 0) (fC (.int 0))) ao)) (X.set 7 (some (.ref (L + 1)))) (B ++ [.lst (s.map .int), .lst (l5 ++ [.str t])]) = .ok (.tup (s.map D.int ++ [.int (s.getD 0 0)])) (B ++ [.lst (s.map .int), .lst (l5 ++ [.str t])]) :=
        am (w0 _ _) (fG (af (bq (w0 _ _) rfl rfl (jr (i := 0) (by rw [ls]; exact n1))) rfl)) (zK (by rw [hl]; exact n1) (by rw [hl]; exact Nat.le_trans (Nat.succ_le_succ hn) (by decide)))
      have f4 : iF (X.set 7 (some (.ref (L + 1)))) (B ++ [.lst (s.map .int), .lst (l5 ++ [.str t])]) = .ok (.ref (L + 2)) (B ++ [.lst (s.map .int), .lst (l5 ++ [.str t]), .dct []]) := EK (g := [.lst (s.map .int), .lst (l5 ++ [.str t])]) hL
      have f6 : cy (ad (aj bJ (aa 0) (cj (ad (fAt (aa 0) (fC (.int 0))) ao))) (ad (cj ao) (ad (fC (.int 5)) (ad iF (ad (cj (ad (aa 0) ao)) (ad (fC (.bl true)) ao)))))) (X.set 7 (some (.ref (L + 1)))) (B ++ [.lst (s.map .int), .lst (l5 ++ [.str t])]) = .ok (.ref (L + 3)) (B ++ [.lst (s.map .int), .lst (l5 ++ [.str t]), .dct [], .lst l6]) := by
        have f2 : ∀ g, cj ao (X.set 7 (some (.ref (L + 1)))) g = .ok (.tup []) g := fun g => fG (xs := []) rfl (Nat.zero_le _)
        have f7 : ∀ g, ad (fC (.bl true)) ao (X.set 7 (some (.ref (L + 1)))) g = .ok [.bl true] g := fun _ => rfl
        have f5 : ∀ g, cj (ad (aa 0) ao) (X.set 7 (some (.ref (L + 1)))) g = .ok (.tup [aH s]) g := fun g => fG (xs := [aH s]) (af (w0 _ _) rfl) (by exact of_decide_eq_true rfl)
        have al : ad (aj bJ (aa 0) (cj (ad (fAt (aa 0) (fC (.int 0))) ao))) (ad (cj ao) (ad (fC (.int 5)) (ad iF (ad (cj (ad (aa 0) ao)) (ad (fC (.bl true)) ao))))) (X.set 7 (some (.ref (L + 1)))) (B ++ [.lst (s.map .int), .lst (l5 ++ [.str t])]) = .ok l6 (B ++ [.lst (s.map .int), .lst (l5 ++ [.str t]), .dct []]) := by
          rw [hl6]; exact af f1 (af (f2 _) (af rfl (af f4 (af (f5 _) (f7 _)))))
        exact mP (xs := l6) (g := [.lst (s.map .int), .lst (l5 ++ [.str t]), .dct []]) hL al (by rw [hl6]; exact of_decide_eq_true rfl)
      rw [hG]
      exact mP (g := [.lst (s.map .int), .lst (l5 ++ [.str t]), .dct [], .lst l6]) hL (EU (w7 _ _) f6 (eX hL 1) (eX hL 3) (by rw [hl5, hl6]; exact of_decide_eq_true rfl)) (by rw [hl5, hl6]; exact of_decide_eq_true rfl)
    obtain ⟨q, hq, q12⟩ := mV (x / 3) (m := 12) (by decide)
    obtain ⟨l12, hl12⟩ : ∃ l12, l12 = l5 ++ [.str t] ++ l6 := ⟨_, rfl⟩
    have ll : l12.length = 12 := by rw [hl12, hl5, hl6]; rfl
    have e12 : l12[q]? = some (l12[q]'(by rw [ll]; exact q12)) := List.getElem?_eq_getElem _
    obtain ⟨y, hy⟩ : ∃ y, y = l12[q]'(by rw [ll]; exact q12) := ⟨_, rfl⟩
    have my : y ∈ l12 := by rw [hy]; exact List.getElem_mem _
    rw [← hy] at e12
    have gz : (B ++ G)[L + 4]? = some (.lst l12) := by rw [hG, hl12]; exact eX hL 4
    have md : ∀ g, aj cE (aj eU (aa 2) (fC (.int 3))) (fC (.int 12)) (X.set 7 (some (.ref (L + 1)))) g = .ok (.int q) g := fun g => by
      rw [← hq]; exact am (am (v2 _ _) rfl (nP (by decide) (by decide))) rfl (em (by decide))
    have s10 := bg (bq nw (md _) (bP gz) (cI e12))
    have nf : Nf w (B ++ G) y := by
      rw [hl12, hl5, hl6] at my
      simp only [List.cons_append, List.nil_append, List.mem_cons, List.not_mem_nil, or_false] at my
      rcases my with rfl | rfl | rfl | rfl | rfl | rfl | rfl | rfl | rfl | rfl | rfl | rfl
      · exact .inl fun g => fj W (by rw [List.length_append, hl]; exact Nat.succ_ne_self n) g
      · exact .inl fun g => fj W (by rw [List.length_drop, hl]; exact Nat.ne_of_lt (Nat.sub_lt n1 Nat.one_pos)) g
      · exact .inl fun g => fj W (by rw [List.length_append, List.length_take, List.length_drop, hl]; omega) g
      · exact .inr (.inl ⟨_, _, rfl, by rw [hG]; exact eX hL 0⟩)
      · exact .inl fun g => fg rfl
      · exact .inl fun g => fg rfl
      · exact .inl fun g => fj W (by rw [List.length_append, hl]; exact Nat.succ_ne_self n) g
      · exact .inl fun g => fj (l := []) W (show 0 ≠ n from Nat.ne_of_lt n1) g
      · exact .inl fun g => fg rfl
      · exact .inr (.inr ⟨_, _, rfl, by rw [hG]; exact eX hL 2⟩)
      · by_cases e : n = 1
        · refine .inl fun g => zI W (by rw [e]; rfl) (fun i y hy => ?_) ⟨0, aH s, rfl, .inl (kN rfl)⟩
          cases i with
          | zero => cases hy; exact .inr (.inl (kN rfl))
          | succ i => cases hy
        · exact .inl fun g => fj (l := [aH s]) W (show 1 ≠ n from Ne.symm e) g
      · exact .inl fun g => fg rfl
    rw [hX] at s8 s9 s10
    have hh : B ++ G = h ++ (g6 ++ G) := by rw [hB, List.append_assoc]
    obtain ⟨g', lg, gg⟩ := lG (h := h) (g := g6 ++ G) (d := y)
    refine ⟨y, g', (b6 rfl st ((aM s4).trans ((aM s5).trans ((aM s6).trans ((aM s7).trans ((aM s8).trans ((aM (by rw [hH1]; rw [hH1] at s9; exact s9)).trans s10))))))).trans (by rw [hh]; exact lg), ?_⟩
    rcases gg with rfl | pu
    · rw [← hh]; exact nf
    · rcases nf with nf | ⟨k, l, rfl, _⟩ | ⟨k, l, rfl, _⟩
      · exact .inl nf
      · cases pu
      · cases pu
end
end Fm
set_option linter.all false
namespace Fm
abbrev II : D := .str [110, 111, 110, 101]
abbrev Hj : D := .str [115, 116, 97, 110, 100]
section
variable {w : Web} {n : Nat} {s : List Int}
theorem Dm (W : w.Ok n) (F : j9 w n s) {p : Nat} (hp : p < n) (h : Hd) : ∃ d, eY [w.enc, aH s, .int p] h = .ok d h := by
  have ht : p < w.ties.length := W.t ▸ hp
  exact ⟨_, (b6 rfl rfl ((aM (fH (ar (iJ (cf rfl rfl)) (lF (mS W F h))))).trans (Dl (bg (ar (af rfl (cf rfl rfl)) (nR W F.len (List.getElem?_eq_getElem ht) h)))))).trans aG⟩
theorem Dn (W : w.Ok n) (F : j9 w n s) {p : Nat} (hp : p < n) (h : Hd) : ∃ d, cQ [w.enc, aH s, .int p] h = .ok d h :=
  ⟨_, (b6 rfl rfl ((aM (fH (ar (iJ (cf rfl rfl)) (lF (mS W F h))))).trans (Dl (bg (ar (af rfl (cf rfl rfl)) (nT W F hp h)))))).trans aG⟩
theorem Do (W : w.Ok n) (F : j9 w n s) (h : Hd) : ∃ d, eZ [w.enc, aH s] h = .ok d h :=
  ⟨_, (b6 rfl rfl ((aM (fH (ar (iJ (cf rfl rfl)) (lF (mS W F h))))).trans (Dl (bg (ar (cf rfl rfl) (xh W F h)))))).trans aG⟩
theorem AF (W : w.Ok n) (F : j9 w n s) {p : Nat} (hp : p < n) {i : Nat} (hi : i < 3) (h : Hd) : dN [.int i, w.enc, aH s, .int p] h = .ok II h := by
  have tq : ∀ (j : Int) (σ : Sd), aa 0 σ h = .ok (.int i) h → tE (aj oEq (aa 0) (fC (.int j))) σ h = .ok (decide ((i : Int) = j)) h := fun j σ v => aQ (am v rfl rfl)
  have t : (iZ (tE (aj oEq (aa 0) (fC (.int 0)))) (dJ (au eY (fPl (ad (aa 1) (ad (aa 2) (ad (aa 3) ao)))))) (iZ (tE (aj oEq (aa 0) (fC (.int 1)))) (dJ (au cQ (fPl (ad (aa 1) (ad (aa 2) (ad (aa 3) ao)))))) (dJ (au eZ (fPl (ad (aa 1) (ad (aa 2) ao))))))) [some (.int i), some w.enc, some (aH s), some (.int p), some .non, none] h = .nx [some (.int i), some w.enc, some (aH s), some (.int p), some .non, none] h := by
    rcases i with _ | _ | _ | i
    · obtain ⟨d, q⟩ := Dm W F hp h
      exact (zF (tq 0 _ rfl)).trans (fH (ar (iJ (af rfl (cf rfl rfl))) q))
    · obtain ⟨d, q⟩ := Dn W F hp h
      exact (kf (tq 0 _ rfl)).trans ((zF (tq 1 _ rfl)).trans (fH (ar (iJ (af rfl (cf rfl rfl))) q)))
    · obtain ⟨d, q⟩ := Do W F h
      exact (kf (tq 0 _ rfl)).trans ((kf (tq 1 _ rfl)).trans (fH (ar (iJ (cf rfl rfl)) q)))
    · exact absurd hi (Nat.not_lt.mpr (Nat.le_add_left 3 i))
  exact (b6 (σ := [some (.int i), some w.enc, some (aH s), some (.int p), none, none]) rfl rfl ((aM (aJ (d := .non) rfl)).trans ((aM (Hg t)).trans (kI ((kb (aQ (am rfl rfl rfl))).trans (bg rfl)))))).trans aG
theorem AG {d : D} {p : Nat} {h : Hd} (f : cM [w.enc, d] h = .ok (.bl false) h) {i : Nat} (hi : i < 3) : dN [.int i, w.enc, d, .int p] h = .ok Hj h := by
  have tq : ∀ (j : Int) (σ : Sd), aa 0 σ h = .ok (.int i) h → tE (aj oEq (aa 0) (fC (.int j))) σ h = .ok (decide ((i : Int) = j)) h := fun j σ v => aQ (am v rfl rfl)
  have c := AB f
  have q1 : eY [w.enc, d, .int p] h = .exc NSx h := tS rfl rfl (tT (ju (gJ (iJ (cf rfl rfl)) c)))
  have q2 : cQ [w.enc, d, .int p] h = .exc NSx h := tS rfl rfl (tT (ju (gJ (iJ (cf rfl rfl)) c)))
  have q3 : eZ [w.enc, d] h = .exc NSx h := tS rfl rfl (tT (ju (gJ (iJ (cf rfl rfl)) c)))
  have t : (iZ (tE (aj oEq (aa 0) (fC (.int 0)))) (dJ (au eY (fPl (ad (aa 1) (ad (aa 2) (ad (aa 3) ao)))))) (iZ (tE (aj oEq (aa 0) (fC (.int 1)))) (dJ (au cQ (fPl (ad (aa 1) (ad (aa 2) (ad (aa 3) ao)))))) (dJ (au eZ (fPl (ad (aa 1) (ad (aa 2) ao))))))) [some (.int i), some w.enc, some d, some (.int p), some .non, none] h = .exc NSx [some (.int i), some w.enc, some d, some (.int p), some .non, none] h := by
    rcases i with _ | _ | _ | i
    · exact (zF (tq 0 _ rfl)).trans (ju (gJ (iJ (af rfl (cf rfl rfl))) q1))
    · exact (kf (tq 0 _ rfl)).trans ((zF (tq 1 _ rfl)).trans (ju (gJ (iJ (af rfl (cf rfl rfl))) q2)))
    · exact (kf (tq 0 _ rfl)).trans ((kf (tq 1 _ rfl)).trans (ju (gJ (iJ (cf rfl rfl)) q3)))
    · exact absurd hi (Nat.not_lt.mpr (Nat.le_add_left 3 i))
  have s2 : va 6 4 ["NoStand"] (iZ (tE (aj oEq (aa 0) (fC (.int 0)))) (dJ (au eY (fPl (ad (aa 1) (ad (aa 2) (ad (aa 3) ao)))))) (iZ (tE (aj oEq (aa 0) (fC (.int 1)))) (dJ (au cQ (fPl (ad (aa 1) (ad (aa 2) (ad (aa 3) ao)))))) (dJ (au eZ (fPl (ad (aa 1) (ad (aa 2) ao))))))) [some (.int i), some w.enc, some d, some (.int p), some .non, none] h = .nx [none, none, none, none, some NSx, none] h := Hh t List.mem_cons_self
  exact (b6 (σ := [some (.int i), some w.enc, some d, some (.int p), none, none]) rfl rfl ((aM (aJ (d := .non) rfl)).trans ((aM s2).trans ((aM (cF (aQ (am (x := NSx) rfl rfl rfl)))).trans ((aM (cF (bT (b := true) (aQ (xq (c := "NoStand") rfl (by decide)))))).trans ((aM (cF (aQ (xq (c := "NoStand") rfl (by decide))))).trans (bg (nN (cf rfl rfl) (G3 (b := true) (xq (c := "NoStand") rfl (by decide))) rfl)))))))).trans aG
end
def leB (a b : List Int) : Bool := (a.zip b).all fun p => decide (p.1 ≤ p.2)
theorem xr {α : Type} (f : α → Bool) (l : List α) : gw (l.map fun x => D.bl (f x)) = some (l.map f) := by
  induction l with
  | nil => rfl
  | cons x l ih => rw [List.map_cons, gw, ih]; rfl
theorem mw (a b : List Int) (h : Hd) : bS [aH a, aH b] h = .ok (.bl (leB a b)) h := by
  obtain ⟨Z, hZ⟩ : ∃ Z : List D, Z = (a.zip b).map fun p => D.tup [.int p.1, .int p.2] := ⟨_, rfl⟩
  have it : Ev (aa 0) (aa 1) [some (aH a), some (aH b)] h = .ok (Z, none) h := by
    show Res.ok (((a.map D.int).zip (b.map D.int)).map fun p => D.tup [p.1, p.2], none) h = _
    rw [hZ, List.zip_map, List.map_map]; rfl
  have cp : cw none Z (gT [0, 1]) [] (aj oLe (aa 0) (aa 1)) Z [none, none] h = .ok ((a.zip b).map fun p => D.bl (decide (p.1 ≤ p.2))) h := by
    have := b0 (g := none) (all := Z) (tg := gT [0, 1]) (cs := []) (e := aj oLe (aa 0) (aa 1)) (h := h) (I := fun σ => ∃ a b, σ = [a, b]) (fun _ => true) (fun d => match d with | .tup [.int x, .int y] => .bl (decide (x ≤ y)) | _ => .non) trivial (xs := Z) (σ := [none, none]) (by
      rintro x hx σ ⟨u, v, rfl⟩
      rw [hZ] at hx
      obtain ⟨p, _, rfl⟩ := List.mem_map.mp hx
      exact ⟨_, rfl, ⟨_, _, rfl⟩, rfl, fun _ => rfl⟩) ⟨_, _, rfl⟩
    rw [this, List.filter_eq_self.mpr (fun _ _ => rfl), hZ, List.map_map]
    rfl
  refine (b6 rfl rfl (bg (xf (dH it cp) (xr _ _)))).trans (aG.trans ?_)
  rw [List.all_map]; rfl
theorem jv {n : Nat} {a b : List Int} (la : a.length = n) (lb : b.length = n) : leB a b = true ↔ ∀ i, i < n → a.getD i 0 ≤ b.getD i 0 := by
  unfold leB
  rw [List.all_eq_true]
  constructor
  · intro q i hi
    have h1 : i < a.length := by omega
    have h2 : i < b.length := by omega
    have := q (a[i], b[i]) (List.mem_iff_getElem?.mpr ⟨i, by rw [List.getElem?_zip_eq_some]; exact ⟨List.getElem?_eq_getElem h1, List.getElem?_eq_getElem h2⟩⟩)
    rw [List.getD_eq_getElem?_getD, List.getD_eq_getElem?_getD, List.getElem?_eq_getElem h1, List.getElem?_eq_getElem h2]
    exact of_decide_eq_true this
  · intro q x hx
    obtain ⟨i, hi⟩ := List.mem_iff_getElem?.mp hx
    obtain ⟨h1, h2⟩ := List.getElem?_zip_eq_some.mp hi
    have := q i (by rw [← la]; exact (List.getElem?_eq_some_iff.mp h1).1)
    rw [List.getD_eq_getElem?_getD, List.getD_eq_getElem?_getD, h1, h2] at this
    exact decide_eq_true this
structure nW (n : Nat) (a : List Int) : Prop where
  len : a.length = n
  op : ∀ x ∈ a, x = 0 ∨ x = 1
theorem nW.at {n : Nat} {a : List Int} (B : nW n a) (i : Nat) : a.getD i 0 = 0 ∨ a.getD i 0 = 1 := by
  by_cases h : i < a.length
  · rw [List.getD_eq_getElem?_getD, List.getElem?_eq_getElem h]; exact B.op _ (List.getElem_mem h)
  · left; rw [List.getD_eq_getElem?_getD, List.getElem?_eq_none (Nat.not_lt.mp h)]; rfl
theorem nW.set {n : Nat} {a : List Int} (B : nW n a) (p : Nat) {v : Int} (hv : v = 0 ∨ v = 1) : nW n (a.set p v) := ⟨by rw [List.length_set]; exact B.len, fun x hx => by
  rcases List.mem_or_eq_of_mem_set hx with z | z
  · exact B.op x z
  · rw [z]; exact hv⟩
theorem vx {n : Nat} (hn : n ≤ 30) {a b : List Int} (A : nW n a) (B : nW n b) (h : Hd) : bH [aH a, aH b] h = .ok (.bl true) h := by
  have la : (a.map D.int).length = n := by rw [List.length_map, A.len]
  obtain ⟨q, hq⟩ : ∃ q : Nat → Bool, q = fun i => decide (a.getD i 0 = 1) && decide (b.getD i 0 = 0) := ⟨_, rfl⟩
  have cp : cw none ((List.range n).map fun k : Nat => D.int k) (gN 0) [(fY (tE (aj oEq (fAt (aa 1) (aa 0)) (fC (.int 1)))) (tE (aj oEq (fAt (aa 2) (aa 0)) (fC (.int 0)))))] (aa 0) ((List.range n).map fun k : Nat => D.int k) [none, some (aH a), some (aH b)] h = .ok (((List.range n).filter q).map fun k : Nat => D.int k) h := by
    have := b0 (g := none) (all := (List.range n).map fun k : Nat => D.int k) (tg := gN 0) (cs := [(fY (tE (aj oEq (fAt (aa 1) (aa 0)) (fC (.int 1)))) (tE (aj oEq (fAt (aa 2) (aa 0)) (fC (.int 0)))))]) (e := aa 0) (h := h) (I := fun σ => ∃ x, σ = [x, some (aH a), some (aH b)]) (fun d => match d with | .int i => q i.toNat | _ => false) (fun d => d) trivial (xs := (List.range n).map fun k : Nat => D.int k) (σ := [none, some (aH a), some (aH b)]) (by
      rintro x hx σ ⟨u, rfl⟩
      obtain ⟨i, hi, rfl⟩ := List.mem_map.mp hx
      have hi := List.mem_range.mp hi
      refine ⟨_, rfl, ⟨_, rfl⟩, lE ?_, fun _ => rfl⟩
      have t1 : tE (aj oEq (fAt (aa 1) (aa 0)) (fC (.int 1))) [some (.int (i : Int)), some (aH a), some (aH b)] h = .ok (decide (a.getD i 0 = 1)) h := aQ (am (bq rfl rfl rfl (jr (by rw [A.len]; exact hi))) rfl nO)
      have t2 : tE (aj oEq (fAt (aa 2) (aa 0)) (fC (.int 0))) [some (.int (i : Int)), some (aH a), some (aH b)] h = .ok (decide (b.getD i 0 = 0)) h := aQ (am (bq rfl rfl rfl (jr (by rw [B.len]; exact hi))) rfl nO)
      show _ = Res.ok (q i) h
      rw [hq]
      cases c : decide (a.getD i 0 = 1) with
      | true => rw [c] at t1; exact (eP t1 t2).trans (by show _ = Res.ok (decide (a.getD i 0 = 1) && decide (b.getD i 0 = 0)) h; rw [c, Bool.true_and])
      | false => rw [c] at t1; exact (jp t1).trans (by show _ = Res.ok (decide (a.getD i 0 = 1) && decide (b.getD i 0 = 0)) h; rw [c, Bool.false_and])) ⟨_, rfl⟩
    rw [this, List.map_id', List.filter_map]
    rfl
  have eqq : leB a b = decide ((((List.range n).filter q).map fun k : Nat => D.int k).length = (0 : Int)) := by
    apply Bool.eq_iff_iff.mpr
    rw [jv A.len B.len, decide_eq_true_eq, List.length_map]
    constructor
    · intro z
      have : (List.range n).filter q = [] := by
        rw [List.filter_eq_nil_iff]
        intro i hi
        have := z i (List.mem_range.mp hi)
        rw [hq]
        simp only [Bool.and_eq_true, decide_eq_true_eq]
        rintro ⟨x, y⟩
        omega
      rw [this]; rfl
    · intro z i hi
      have z : (List.range n).filter q = [] := List.eq_nil_of_length_eq_zero (by omega)
      have := List.filter_eq_nil_iff.mp z i (List.mem_range.mpr hi)
      rw [hq] at this
      simp only [Bool.and_eq_true, decide_eq_true_eq] at this
      rcases A.at i with x | x <;> rcases B.at i with y | y <;> first | omega | exact absurd ⟨x, y⟩ this
  have eo : oEq (.bl (leB a b)) (.bl (leB a b)) h = .ok (.bl true) h := by
    show Res.ok (D.bl (decide (leB a b = leB a b))) h = _
    rw [decide_eq_true rfl]
  exact (b6 (σ := [some (aH a), some (aH b), none, none]) rfl rfl ((aM (aJ (ar (cf rfl rfl) (mw a b h)))).trans ((aM (aJ (am (dh (dH (dD (dh (cL rfl rfl)) (by rw [la]; exact Ar hn)) (by rw [la]; exact cp))) rfl (nO.trans (by rw [← eqq]))))).trans (bg (iH (eP (aQ rfl) (aQ (am rfl rfl eo)))))))).trans aG
end Fm
set_option linter.all false
namespace Fm
noncomputable abbrev X5 (S0 : D) (n : Nat) (w : Web) (s : List Int) (L : Nat) (a b c d e f g k l : Option D) : Sd := [some S0, some (.int n), some (.ref 1), some (.ref (5 + n)), some (.ref 3), some (.ref 4), some w.enc, some (aH s), some (.ref L), a, b, c, d, e, f, g, k, l]
theorem vy : ∀ n, (List.replicate n [D.non]).flatten = (List.replicate n (none : Option Int)).map bO
  | 0 => rfl
  | n + 1 => by rw [List.replicate_succ, List.replicate_succ, List.flatten_cons, vy n]; rfl
theorem zM (x : List Nat) (h : Hd) : oNe (.str x) (.str x) h = .ok (.bl false) h := by
  have : eqG h (.str x) (.str x) = some true := by simp only [eqG, fP, dep, peq, decide_true]; rfl
  show (match eqG h (.str x) (.str x) with | some b => Res.ok (D.bl (!b)) h | none => Res.bad) = _
  rw [this]; rfl
section
variable {S0 : D} {n : Nat} {w : Web} {s : List Int} {L : Nat}
theorem Dp (W : w.Ok n) (F : j9 w n s) (n1 : 1 ≤ n) (hn : n ≤ 30) {H : Hd} (hL : L = H.length) (hs : H[3]? = some (.lst (w.stays.map bO))) (c0 t0 : Int) (m : Bool) (g : Hd) (a b c d e : Option D) :
    ∃ c1 t1 g' b' c' d' e', xn (X5 S0 n w s L a b c d e none none none none) (H ++ (SC c0 t0 m :: g)) = .nx (X5 S0 n w s L a b' c' d' e' none none none none) (H ++ (SC c1 t1 m :: g')) := by
  have at0 : ∀ (c t : Int) (g : Hd), (H ++ (SC c t m :: g))[L]? = some (SC c t m) := fun c t g => by have := eX (g := SC c t m :: g) hL 0; rwa [Nat.add_zero] at this
  have st0 : ∀ (c t c' t' : Int) (g : Hd), (H ++ (SC c t m :: g)).set L (SC c' t' m) = H ++ (SC c' t' m :: g) := fun c t c' t' g => by have := mQ (g := SC c t m :: g) hL 0 (SC c' t' m); rwa [Nat.add_zero] at this
  obtain ⟨x, c1, t1, d1, -, -⟩ := i6 (m := 720) (at0 c0 t0 g) (by decide) (by decide)
  rw [st0] at d1
  obtain ⟨y, c2, t2, d2, y0, y1⟩ := i6 (m := (n : Int)) (at0 c1 t1 g) (by omega) (by omega)
  rw [st0] at d2
  obtain ⟨p, hp⟩ : ∃ p : Nat, y = p := ⟨y.toNat, by omega⟩
  have pn : p < n := by omega
  rw [hp] at d2
  obtain ⟨z, c3, t3, d3, -, -⟩ := i6 (m := 900) (at0 c2 t2 g) (by decide) (by decide)
  rw [st0] at d3
  obtain ⟨k, g', q, nf⟩ := Hi W F n1 hn (h := H ++ (SC c3 t3 m :: g)) (sk := 3) (fI _ hs) x z
  rw [List.append_assoc] at q nf
  obtain ⟨G, hG⟩ : ∃ G : Hd, G = H ++ (SC c3 t3 m :: g ++ g') := ⟨_, rfl⟩
  rw [← hG] at q nf
  have s1 : aR (gN 10) (au aB (ad (aa 8) (ad (fC (.int 720)) ao))) (X5 S0 n w s L a b c d e none none none none) (H ++ (SC c0 t0 m :: g)) = .nx (X5 S0 n w s L a (some (.int x)) c d e none none none none) (H ++ (SC c1 t1 m :: g)) := aJ (ar (cf rfl rfl) d1)
  have s2 : aR (gN 11) (au aB (ad (aa 8) (ad (aa 1) ao))) (X5 S0 n w s L a (some (.int x)) c d e none none none none) (H ++ (SC c1 t1 m :: g)) = .nx (X5 S0 n w s L a (some (.int x)) (some (.int p)) d e none none none none) (H ++ (SC c2 t2 m :: g)) := aJ (ar (cf rfl rfl) d2)
  have s3 : aR (gN 12) (au jt (ad (aa 7) (ad (aa 4) (ad (aa 10) (ad (au aB (ad (aa 8) (ad (fC (.int 900)) ao))) ao))))) (X5 S0 n w s L a (some (.int x)) (some (.int p)) d e none none none none) (H ++ (SC c2 t2 m :: g)) = .nx (X5 S0 n w s L a (some (.int x)) (some (.int p)) (some k) e none none none none) G :=
    aJ (ar (af rfl (af rfl (cf rfl (ar (cf rfl rfl) d3)))) q)
  have s4 : sIf (tOr (tE (aj ii (au cM (ad (aa 6) (ad (aa 7) ao))) (fC (.bl true)))) (tE (aj ii (au cM (ad (aa 6) (ad (aa 12) ao))) (fC (.bl false))))) (bb (fC (.bl false))) bn (X5 S0 n w s L a (some (.int x)) (some (.int p)) (some k) e none none none none) G = .nx (X5 S0 n w s L a (some (.int x)) (some (.int p)) (some k) e none none none none) G :=
    cF (fV (aQ (am (ar (cf rfl rfl) (mS W F G)) rfl rfl)) (aQ (am (ar (cf rfl rfl) nf.fits) rfl rfl)))
  obtain ⟨e', s5⟩ := zJ (g := none) (all := (List.range 3).map fun k : Nat => D.int k) (tg := gN 13) (B := xm) (σ := fun v => X5 S0 n w s L a (some (.int x)) (some (.int p)) (some k) v none none none none) (h := G) trivial (fun _ _ => rfl) (xs := (List.range 3).map fun k : Nat => D.int k) e (by
    intro v hv
    obtain ⟨i, hi, rfl⟩ := List.mem_map.mp hv
    have hi := List.mem_range.mp hi
    exact cF (fV (aQ (am (ar (af rfl (af rfl (cf rfl rfl))) (AF W F pn hi G)) rfl (zM _ _))) (aQ (am (ar (af rfl (af rfl (cf rfl rfl))) (AG nf.fits hi)) rfl (zM _ _)))))
  refine ⟨c3, t3, g ++ g', some (.int x), some (.int p), some k, e', ?_⟩
  have s6 : jA (cq (fC (.int 3))) (gN 13) xm (X5 S0 n w s L a (some (.int x)) (some (.int p)) (some k) e none none none none) G = .nx (X5 S0 n w s L a (some (.int x)) (some (.int p)) (some k) e' none none none none) G := i4 (dD (n := 3) rfl (by decide)) s5
  refine (aM s1).trans ((aM s2).trans ((aM s3).trans ((aM s4).trans (s6.trans ?_))))
  rw [hG]; rfl
theorem nX (ns : List Int) (hn : n ≤ 30) (k : Nat) {σ : Sd} {h : Hd} {e : EF} (v0 : ∀ g, aa 0 σ g = .ok (.lit (ns.map .int)) g) (v1 : ∀ g, aa 1 σ g = .ok (.int n) g) (ve : ∀ g, e σ g = .ok (.int k) g) :
    ∃ a g, nW n a ∧ au dm (ad (aa 0) (ad e (ad (cy (nH (ad (fC .non) ao) (aa 1))) ao))) σ h = .ok (aH a) (h ++ g) := by
  have rp : nH (ad (fC .non) ao) (aa 1) σ h = .ok ((List.replicate n (none : Option Int)).map bO) h := by
    have := CW (la := ad (fC .non) ao) (b := aa 1) (σ := σ) (h := h) (l := [.non]) (n := (n : Int)) rfl (v1 h) ⟨Int.natCast_nonneg n, by omega, by rw [Int.toNat_natCast]; show 1 * n ≤ 1000; omega⟩
    rw [Int.toNat_natCast, vy] at this
    exact this
  have nw := lD rp (by rw [List.length_map, List.length_replicate]; exact Ar hn)
  obtain ⟨a, q, f⟩ := rT ns k hn (ss := List.replicate n none) (List.length_replicate) (fun x hx => .inl (List.eq_of_mem_replicate hx)) (h := h ++ [.lst ((List.replicate n (none : Option Int)).map bO)]) (sk := h.length) List.getElem?_concat_length
  exact ⟨a, [.lst ((List.replicate n (none : Option Int)).map bO)], ⟨f.len, f.op⟩, ar (af (v0 _) (cf (ve _) nw)) q⟩
theorem AH (ns : List Int) (hS0 : S0 = .lit (ns.map .int)) (n1 : 1 ≤ n) (hn : n ≤ 30) {i : Nat} (hi : i < 4) (h : Hd) (a b c d e g : Option D) :
    ∃ c' g' h', xo (X5 S0 n w s L a b c d e (some (.int i)) g none none) h = .nx (X5 S0 n w s L a b c' d e (some (.int i)) g' none none) (h ++ h') := by
  obtain ⟨u, g1, Bu, q1⟩ := nX ns hn (43 + i) (σ := X5 S0 n w s L a b c d e (some (.int i)) g none none) (h := h) (e := aj bJ (fC (.int 43)) (aa 14)) (fun _ => by rw [hS0]; rfl) (fun _ => rfl) (fun _ => rfl)
  obtain ⟨v, g2, Bv, q2⟩ := nX ns hn (47 + i) (σ := X5 S0 n w s L a b (some (aH u)) d e (some (.int i)) g none none) (h := h ++ g1) (e := aj bJ (fC (.int 47)) (aa 14)) (fun _ => by rw [hS0]; rfl) (fun _ => rfl) (fun _ => rfl)
  obtain ⟨K, hK⟩ : ∃ K, K = h ++ g1 ++ g2 := ⟨_, rfl⟩
  rw [← hK] at q2
  have s1 := aJ (i := 11) q1
  have s2 := aJ (i := 15) q2
  have s3 : ∃ v', nW n v' ∧ sIf (tE (aj oGt (aa 14) (fC (.int 1)))) (aR (gN 15) (dQ (cg 2 [11] (rq (aa 15)) (gT [0, 1]) [] (u0 (aa 1) (fAt (aa 2) (aa 0)))))) bn (X5 S0 n w s L a b (some (aH u)) d e (some (.int i)) (some (aH v)) none none) K = .nx (X5 S0 n w s L a b (some (aH u)) d e (some (.int i)) (some (aH v')) none none) K := by
    by_cases z : (1 : Int) < i
    · obtain ⟨v', hv'⟩ : ∃ v' : List Int, v' = ((List.range n).zip v).map fun p => if u.getD p.1 0 > p.2 then u.getD p.1 0 else p.2 := ⟨_, rfl⟩
      obtain ⟨Z, hZ⟩ : ∃ Z : List D, Z = ((List.range n).zip v).map fun p => D.tup [.int (p.1 : Nat), .int p.2] := ⟨_, rfl⟩
      have it : rq (aa 15) (X5 S0 n w s L a b (some (aH u)) d e (some (.int i)) (some (aH v)) none none) K = .ok (Z, none) K := by
        show Res.ok (((List.range (v.map D.int).length).zip (v.map D.int)).map fun p => D.tup [.int (p.1 : Nat), p.2], none) K = _
        rw [List.length_map, Bv.len, hZ, List.zip_map_right, List.map_map]; rfl
      have cp : cw none Z (gT [0, 1]) [] (u0 (aa 1) (fAt (aa 2) (aa 0))) Z [none, none, some (aH u)] K = .ok (v'.map D.int) K := by
        have := b0 (g := none) (all := Z) (tg := gT [0, 1]) (cs := []) (e := u0 (aa 1) (fAt (aa 2) (aa 0))) (h := K) (I := fun σ => ∃ a b, σ = [a, b, some (aH u)]) (fun _ => true) (fun d => match d with | .tup [.int x, .int y] => .int (if u.getD x.toNat 0 > y then u.getD x.toNat 0 else y) | _ => .non) trivial (xs := Z) (σ := [none, none, some (aH u)]) (by
          rintro x hx σ ⟨a, b, rfl⟩
          rw [hZ] at hx
          obtain ⟨⟨j, y⟩, hj, rfl⟩ := List.mem_map.mp hx
          have hj := List.mem_range.mp (List.of_mem_zip hj).1
          exact ⟨_, rfl, ⟨_, _, rfl⟩, rfl, fun _ => G2 rfl (bq rfl rfl rfl (jr (by rw [Bu.len]; exact hj)))⟩) ⟨_, _, rfl⟩
        rw [this, List.filter_eq_self.mpr (fun _ _ => rfl), hZ, hv', List.map_map, List.map_map]
        rfl
      refine ⟨v', ⟨?_, fun x hx => ?_⟩, (kb (aQ (am rfl rfl (CY z)))).trans (aJ (kH (dH it cp)))⟩
      · rw [hv', List.length_map, List.length_zip, List.length_range, Bv.len, Nat.min_self]
      · rw [hv'] at hx
        obtain ⟨p, hp, rfl⟩ := List.mem_map.mp hx
        have h1 := Bu.at p.1
        have h2 := Bv.op _ (List.of_mem_zip hp).2
        split
        · exact h1
        · exact h2
    · exact ⟨v, Bv, cF (aQ (am rfl rfl (CZ z)))⟩
  obtain ⟨v', Bv', s3⟩ := s3
  have s4 : ∃ y, nW n y ∧ sIf (tE (aj oEq (aa 14) (fC (.int 3)))) (aR (gN 15) (aj bZ (aj bZ (bf (aa 15) pNo (pAt (aj eU (aa 1) (fC (.int 3))))) (cj (ad (fC (.int 0)) ao))) (bf (aa 15) (pAt (aj bJ (aj eU (aa 1) (fC (.int 3))) (fC (.int 1)))) pNo))) bn (X5 S0 n w s L a b (some (aH u)) d e (some (.int i)) (some (aH v')) none none) K = .nx (X5 S0 n w s L a b (some (aH u)) d e (some (.int i)) (some (aH y)) none none) K := by
    by_cases z : (i : Int) = 3
    · obtain ⟨p, hp⟩ : ∃ p : Nat, (n : Int) / 3 = p := ⟨n / 3, by omega⟩
      have pn : p < n := by omega
      have dv : ∀ (σ : Sd) (g : Hd), aa 1 σ g = .ok (.int n) g → aj eU (aa 1) (fC (.int 3)) σ g = .ok (.int p) g := fun σ g v1 => by rw [← hp]; exact am v1 rfl (nP (by decide) (by decide))
      have q := mW (a := aa 15) (i := aj eU (aa 1) (fC (.int 3))) (j := aj bJ (aj eU (aa 1) (fC (.int 3))) (fC (.int 1))) (e := fC (.int 0)) (σ := X5 S0 n w s L a b (some (aH u)) d e (some (.int i)) (some (aH v')) none none) (h := K) (h' := K) Bv'.len hn pn (fun _ => rfl) (fun g => dv _ g rfl) (fun g => am (dv _ g rfl) rfl rfl) rfl
      rw [vw Bv'.len pn] at q
      exact ⟨_, Bv'.set p (.inl rfl), (kb (aQ (am rfl rfl (xb z)))).trans (aJ q)⟩
    · exact ⟨v', Bv', cF (aQ (am rfl rfl (nQ z)))⟩
  obtain ⟨y, By, s4⟩ := s4
  have s5 : sIf (tOr (cH (tE (au bH (ad (aa 11) (ad (aa 15) ao))))) (cH (tE (au bH (ad (aa 15) (ad (aa 11) ao)))))) (bb (fC (.bl false))) bn (X5 S0 n w s L a b (some (aH u)) d e (some (.int i)) (some (aH y)) none none) K = .nx (X5 S0 n w s L a b (some (aH u)) d e (some (.int i)) (some (aH y)) none none) K :=
    cF (fV (bT (b := true) (aQ (ar (cf rfl rfl) (vx hn Bu By K)))) (bT (b := true) (aQ (ar (cf rfl rfl) (vx hn By Bu K)))))
  refine ⟨some (aH u), some (aH y), g1 ++ g2, ?_⟩
  rw [← List.append_assoc, ← hK]
  exact (aM s1).trans ((aM s2).trans ((aM s3).trans ((aM s4).trans s5)))
end
theorem jw {a : List Int} {p : Nat} (hp : p < a.length) (v : Int) (i : Nat) : (a.set p v).getD i 0 = if i = p then v else a.getD i 0 := by
  rw [List.getD_eq_getElem?_getD, List.getD_eq_getElem?_getD]
  by_cases e : i = p
  · subst e; rw [List.getElem?_set_self hp, if_pos rfl]; rfl
  · rw [List.getElem?_set_ne (Ne.symm e), if_neg e]
theorem Hk (ns : List Int) (_ : ns.length ≤ 63) : ∃ h, zD [.lit (ns.map .int)] [] = .ok (.bl true) h := by
  obtain ⟨n, T, bs, ss, h, P⟩ := Av ns
  obtain ⟨S0, hS0⟩ : ∃ S0 : D, S0 = .lit (ns.map .int) := ⟨_, rfl⟩
  have hn := P.n30
  have n1 := P.n1
  obtain ⟨w, hw⟩ : ∃ w, w = rR n T bs ss := ⟨_, rfl⟩
  have W : w.Ok n := by rw [hw]; exact C5 hn P.ok P.lb P.ls
  have web := Az n1 hn P.ok P.lb P.ls P.os P.ti P.ba P.st
  rw [← hw] at web
  obtain ⟨s, qs, fs⟩ := rT ns 41 hn P.ls P.os P.st
  have F : j9 w n s := by rw [hw]; exact fs.fits T bs
  have Bs : nW n s := ⟨fs.len, fs.op⟩
  obtain ⟨c, m, qc⟩ := kL ns 42 h
  have hs : h[3]? = some (.lst (w.stays.map bO)) := by rw [hw]; exact P.st
  have run := P.run
  rw [← hS0] at run qs qc ⊢
  obtain ⟨L, hL⟩ : ∃ L, L = h.length := ⟨_, rfl⟩
  rw [← hL] at qc
  have e0 : C6 [some S0, none, none, none, none, none, none, none, none, none, none, none, none, none, none, none, none, none] [] = .nx [some S0, some (.int n), some (.ref 1), some (.ref (5 + n)), some (.ref 3), some (.ref 4), none, none, none, none, none, none, none, none, none, none, none, none] h := by
    have : au dM (ad (aa 0) ao) [some S0, none, none, none, none, none, none, none, none, none, none, none, none, none, none, none, none, none] [] = .ok (.tup [.int n, .ref 1, .ref (5 + n), .ref 3, .ref 4]) h := ar (af rfl rfl) run
    show outE _ _ _ = _
    rw [this]; rfl
  have e1 : C7 [some S0, some (.int n), some (.ref 1), some (.ref (5 + n)), some (.ref 3), some (.ref 4), none, none, none, none, none, none, none, none, none, none, none, none] h = .nx [some S0, some (.int n), some (.ref 1), some (.ref (5 + n)), some (.ref 3), some (.ref 4), some w.enc, none, none, none, none, none, none, none, none, none, none, none] h := aJ (ar (af rfl (af rfl (cf rfl rfl))) web)
  have e2 : C8 [some S0, some (.int n), some (.ref 1), some (.ref (5 + n)), some (.ref 3), some (.ref 4), some w.enc, none, none, none, none, none, none, none, none, none, none, none] h = .nx [some S0, some (.int n), some (.ref 1), some (.ref (5 + n)), some (.ref 3), some (.ref 4), some w.enc, some (aH s), none, none, none, none, none, none, none, none, none, none] h := aJ (ar (af rfl (cf rfl rfl)) qs)
  have e3 : C9 [some S0, some (.int n), some (.ref 1), some (.ref (5 + n)), some (.ref 3), some (.ref 4), some w.enc, some (aH s), none, none, none, none, none, none, none, none, none, none] h = .nx (X5 S0 n w s L none none none none none none none none none) (h ++ [SC c 0 m]) := aJ (ar (cf rfl rfl) qc)
  obtain ⟨σ4, h4, q4, c4, t4, g4, a4, b4, d4, f4, k4, x1, x2⟩ := ff (P := fun _ σ h' => ∃ c t g a b d f k, σ = X5 S0 n w s L a b d f k none none none none ∧ h' = h ++ (SC c t m :: g)) (g := none) (k := 0)
    (all := (List.range 10).map fun k : Nat => D.int k) (fun _ _ _ _ => trivial) (xs := (List.range 10).map fun k : Nat => D.int k) (tg := gN 9) (σ := X5 S0 n w s L none none none none none none none none none) (h := h ++ [SC c 0 m]) (b := xn) (by
      rintro i x σ h0 hx ⟨c, t, g, a, b, d, f, k, rfl, rfl⟩
      obtain ⟨c1, t1, g', b', c', d', e', q⟩ := Dp (S0 := S0) W F n1 hn hL hs c t m g (some x) b d f k
      exact ⟨_, rfl, _, _, q, _, _, _, _, _, _, _, _, rfl, rfl⟩) ⟨c, 0, [], none, none, none, none, none, rfl, rfl⟩
  have e4 : Da (X5 S0 n w s L none none none none none none none none none) (h ++ [SC c 0 m]) = .nx (X5 S0 n w s L a4 b4 d4 f4 k4 none none none none) h4 := by
    rw [x1] at q4; exact i4 (dD (n := 10) rfl (by decide)) q4
  obtain ⟨σ5, h5, q5, c5, d5, g5, x3⟩ := ff (P := fun _ σ _ => ∃ c d g, σ = X5 S0 n w s L a4 b4 c f4 k4 d g none none) (g := none) (k := 0)
    (all := (List.range 4).map fun k : Nat => D.int k) (fun _ _ _ _ => trivial) (xs := (List.range 4).map fun k : Nat => D.int k) (tg := gN 14) (σ := X5 S0 n w s L a4 b4 d4 f4 k4 none none none none) (h := h4) (b := xo) (by
      rintro i x σ h0 hx ⟨c, d, g, rfl⟩
      obtain ⟨hi, rfl⟩ := gH hx
      obtain ⟨c', g', h', q⟩ := AH (w := w) (s := s) (L := L) ns hS0 n1 hn hi h0 a4 b4 c f4 k4 g
      exact ⟨_, rfl, _, _, q, _, _, _, rfl⟩) ⟨_, _, _, rfl⟩
  have e5 : Db (X5 S0 n w s L a4 b4 d4 f4 k4 none none none none) h4 = .nx (X5 S0 n w s L a4 b4 c5 f4 k4 d5 g5 none none) h5 := by
    rw [x3] at q5; exact i4 (dD (n := 4) rfl (by decide)) q5
  obtain ⟨p, hp⟩ : ∃ p : Nat, (n : Int) / 2 = p := ⟨n / 2, by omega⟩
  have pn : p < n := by omega
  have pl : p < s.length := by rw [Bs.len]; exact pn
  have dv : ∀ (σ : Sd) (g : Hd), aa 1 σ g = .ok (.int n) g → aj eU (aa 1) (fC (.int 2)) σ g = .ok (.int p) g := fun σ g v1 => by rw [← hp]; exact am v1 rfl (nP (by decide) (by decide))
  have bt : ∀ (v : Int) (σ : Sd), (∀ g, aa 1 σ g = .ok (.int n) g) → (∀ g, aa 7 σ g = .ok (aH s) g) → aj bZ (aj bZ (bf (aa 7) pNo (pAt (aj eU (aa 1) (fC (.int 2))))) (cj (ad (fC (.int v)) ao))) (bf (aa 7) (pAt (aj bJ (aj eU (aa 1) (fC (.int 2))) (fC (.int 1)))) pNo) σ h5 = .ok (aH (s.set p v)) h5 := fun v σ v1 v7 => by
    rw [← vw Bs.len pn]
    exact mW Bs.len hn pn v7 (fun g => dv _ g (v1 g)) (fun g => am (dv _ g (v1 g)) rfl rfl) rfl
  have e6 : Dc (X5 S0 n w s L a4 b4 c5 f4 k4 d5 g5 none none) h5 = .nx (X5 S0 n w s L a4 b4 c5 f4 k4 d5 g5 (some (aH (s.set p 0))) none) h5 := aJ (bt 0 _ (fun _ => rfl) (fun _ => rfl))
  have e7 : Dd (X5 S0 n w s L a4 b4 c5 f4 k4 d5 g5 (some (aH (s.set p 0))) none) h5 = .nx (X5 S0 n w s L a4 b4 c5 f4 k4 d5 g5 (some (aH (s.set p 0))) (some (aH (s.set p 1)))) h5 := aJ (bt 1 _ (fun _ => rfl) (fun _ => rfl))
  have l0 : (s.set p 0).length = n := by rw [List.length_set, Bs.len]
  have l1 : (s.set p 1).length = n := by rw [List.length_set, Bs.len]
  have b01 : leB (s.set p 0) (s.set p 1) = true := (jv l0 l1).mpr fun i _ => by rw [jw pl, jw pl]; split <;> omega
  have b10 : leB (s.set p 1) (s.set p 0) = false := Bool.eq_false_iff.mpr fun z => by
    have := (jv l1 l0).mp z p pn
    rw [jw pl, jw pl, if_pos rfl, if_pos rfl] at this
    omega
  have bss : leB s s = true := (jv Bs.len Bs.len).mpr fun i _ => Int.le_refl _
  have b0s : leB (s.set p 0) s = true := (jv l0 Bs.len).mpr fun i _ => by rw [jw pl]; have := Bs.at i; split <;> omega
  have bs1 : leB s (s.set p 1) = true := (jv Bs.len l1).mpr fun i _ => by rw [jw pl]; have := Bs.at i; split <;> omega
  have ib : ∀ {a b : List Int} {v : Bool}, leB a b = v → ∀ h, bS [aH a, aH b] h = .ok (.bl v) h := fun e h => e ▸ mw _ _ h
  obtain ⟨X, hX⟩ : ∃ X : Sd, X = X5 S0 n w s L a4 b4 c5 f4 k4 d5 g5 (some (aH (s.set p 0))) (some (aH (s.set p 1))) := ⟨_, rfl⟩
  have v7 : ∀ g, aa 7 X g = .ok (aH s) g := fun _ => by rw [hX]; rfl
  have v16 : ∀ g, aa 16 X g = .ok (aH (s.set p 0)) g := fun _ => by rw [hX]; rfl
  have v17 : ∀ g, aa 17 X g = .ok (aH (s.set p 1)) g := fun _ => by rw [hX]; rfl
  have e8 : De X h5 = .nx X h5 := cF (fV (aQ (am (ar (cf (v16 _) (v17 _)) (ib b01 _)) rfl rfl)) (aQ (am (ar (cf (v17 _) (v16 _)) (ib b10 _)) rfl rfl)))
  have e9 : Df X h5 = .rt (.bl true) h5 := bg (iH (eP (aQ (am (ar (cf (v7 _) (v7 _)) (ib bss _)) rfl rfl)) (eP (aQ (am (ar (cf (v16 _) (v7 _)) (ib b0s _)) rfl rfl)) (aQ (am (ar (cf (v7 _) (v17 _)) (ib bs1 _)) rfl rfl)))))
  rw [hX] at e8 e9
  exact ⟨[], (b6 (σ := [some S0, none, none, none, none, none, none, none, none, none, none, none, none, none, none, none, none, none]) rfl rfl ((aM e0).trans ((aM e1).trans ((aM e2).trans ((aM e3).trans ((aM e4).trans ((aM e5).trans ((aM e6).trans ((aM e7).trans ((aM e8).trans e9)))))))))).trans (fF (h := []) (g := h5) rfl)⟩
end Fm
set_option Elab.async false
set_option linter.all false
set_option maxRecDepth 100000
set_option maxHeartbeats 4000000
namespace Fm
open PySem PySem.Spec L2
section
abbrev ed (i : Nat) : Stmt := PySem.Challenge.pw_followmost_k05_what_fits.main.body.getD i (.Pass ⟨0, 0, 0, 0⟩)
abbrev eC : Stmt := ed 12
abbrev dn : Stmt := ed 13
abbrev dq : Stmt := ed 14
abbrev gK : Stmt := ed 24
abbrev dr : Stmt := ed 23
abbrev d6 : Stmt := ed 25
abbrev du : Stmt := ed 26
abbrev gL : Stmt := ed 18
abbrev fk : Stmt := ed 19
abbrev fm : Stmt := ed 20
abbrev gM : Stmt := ed 21
abbrev fq : Stmt := ed 22
abbrev lH : Stmt := ed 28
abbrev cU : Stmt := ed 33
abbrev ft : Stmt := ed 34
abbrev lI : Stmt := ed 29
abbrev fu : Stmt := ed 35
abbrev fv : Stmt := ed 30
abbrev fw : Stmt := ed 36
abbrev lJ : Stmt := ed 31
abbrev eD : Stmt := ed 32
abbrev dw : Stmt := ed 38
abbrev dy : Stmt := ed 39
abbrev eE : Stmt := ed 40
abbrev cV : Stmt := ed 41
abbrev dz : Stmt := ed 42
abbrev eF : Stmt := ed 43
abbrev bM : Stmt := ed 44
abbrev cW : Stmt := ed 45
abbrev kO : Stmt := ed 46
variable {P : Program} {w : World} {K : PySem.W.Frag} {mg : Str → Option Value} {base : Heap} {f : Addr} {fd : FuncData}
theorem vz : aX ["thing"] ["thing"] (ak eC) := ⟨rfl, rfl, rfl, by decide +kernel, rfl, by decide +kernel, by decide +kernel⟩
theorem vA (F : Fun K "is_whole" "is_whole" eC f fd) (aC : mg "isinstance" = none) (lM : mg "bool" = none) (rW : mg "int" = none) : ce P w K mg base CX0 1 f fd ["thing"] (spF K bR 1) := by
  refine cG F vz fun cdv A outer s H E hr => ?_
  have hu := d9 hr
  exact (av (aK (MB.me (ly (fA (fS (t := .int) rfl aC rfl rW (by decide +kernel) (mv 0))) (j2 (Gn (fA (fS (t := .bool) rfl aC rfl lM (by decide +kernel) (mv 0)))))))))
theorem pr : aX ["thing", "least", "most"] ["thing", "least", "most"] (ak dn) := ⟨rfl, rfl, rfl, by decide +kernel, rfl, by decide +kernel, by decide +kernel⟩
theorem pv (F : Fun K "is_between" "is_between" dn f fd) (fM : Def P w K mg base "is_whole" 1 1 bR) : ce P w K mg base CX0 2 f fd ["thing", "least", "most"] (spF K aZ 3) := by
  refine cG F pr fun cdv A outer s H E hr => ?_
  have hu := d9 hr
  exact (av (aK (MB.me (ly (fA (aw fM (hr.mono (by decide)) rfl (ae (mv 0) aq) ax)) (j2 (fA (B9 BW BW z8 z8 (mv 1) (mv 0) (mv 2))))))))
theorem px : aX ["thing"] ["thing"] (ak dq) := ⟨rfl, rfl, rfl, by decide +kernel, rfl, by decide +kernel, by decide +kernel⟩
theorem py (F : Fun K "is_opinion" "is_opinion" dq f fd) (bU : Def P w K mg base "is_between" 2 3 aZ) : ce P w K mg base CX0 3 f fd ["thing"] (spF K a0 1) := by
  refine cG F px fun cdv A outer s H E hr => ?_
  have hu := d9 hr
  exact (av (aK (aw bU (hr.mono (by decide)) rfl (ae (mv 0) (ae ah (ae ah aq))) ax)))
theorem lK : aX ["many", "thing", "one", "other"] ["many", "thing"] (ak gK) := ⟨rfl, rfl, rfl, by decide +kernel, rfl, by decide +kernel, by decide +kernel⟩
theorem AI (F : Fun K "is_tie" "is_tie" gK f fd) (bY : mg "len" = none) (aC : mg "isinstance" = none) (br : mg "tuple" = none) {gh : Tok} (gj : mg "MOST_WEIGHT" = some (.int 400 gh)) (bU : Def P w K mg base "is_between" 2 3 aZ) : ce P w K mg base CX0 3 f fd ["many", "thing"] (spF K i5 2) := by
  refine cG F lK fun cdv A outer s H E hr => ?_
  have hu := d9 hr
  exact (ag (bK (MW.mt (kx (dB (cJ (fS (t := .tuple) rfl aC rfl br (by decide +kernel) (mv 1)))) (eO (bi (ic hu) kz (eh rfl bY (eM (mv 1))) ah (aW _)) (.inr rfl)))) (av (aK dU)) aU)
    (ag (aL (i := 2) lK.nd rfl (by first | exact .inl rfl | exact .inr rfl) (bu (mv 1) ah (fun _ _ => rfl)))
    (ag (aL (i := 3) lK.nd rfl (by first | exact .inl rfl | exact .inr rfl) (bu (mv 1) ah (fun _ _ => rfl)))
    (ag (bK (MW.mt (kx (dB (cJ (aw bU (hr.mono (by decide)) rfl (ae (mv 2) (ae ah (ae (aF m7 B7 (mv 0) ah) aq))) ax))) (eO (dB (cJ (aw bU (hr.mono (by decide)) rfl (ae (mv 3) (ae ah (ae (aF m7 B7 (mv 0) ah) aq))) ax))) (.inr rfl)))) (av (aK dU)) aU)
    (av (aK (MB.me (ly (fA (ge (ic hu) kz (mv 2) (mv 3) (aW _))) (j2 (fA (aw bU (hr.mono (by decide)) rfl (ae (bu (mv 1) ah (fun _ _ => rfl)) (ae ah (ae (uP rfl gj) aq))) ax)))))))))))
theorem dE : aX ["many", "ties", "near", "tie", "one", "other"] ["many", "ties"] (ak dr) := ⟨rfl, rfl, rfl, by decide +kernel, rfl, by decide +kernel, by decide +kernel⟩
theorem pz (F : Fun K "neighbours" "neighbours" dr f fd) (bA : mg "range" = none) (aC : mg "isinstance" = none) (eQ : mg "list" = none) (n8 : Def P w K mg base "is_tie" 3 2 i5) : ce P w K mg base CX0 4 f fd ["many", "ties"] (spF K cN 2) := by
  refine cG F dE fun cdv A outer s H E hr => ?_
  have hu := d9 hr
  exact (ag (bK (dB (cJ (fS (t := .list) rfl aC rfl eQ (by decide +kernel) (mv 1)))) (av ie) aU)
    (ag (zi (i := 2) dE.nd rfl (by first | exact .inl rfl | exact .inr rfl) (own := ["person"]) (capn := []) (caps := []) rfl (cr.mk' rfl (by decide +kernel) (by decide +kernel) (by repeat' (first | exact bj.nil | refine bj.cons (by first | exact (fun _ => .inl rfl) | exact (fun _ => .inr rfl) | (intro z; cases z; done)) ?_)) bW.nil) (df rfl bA (mv 0))
      (fun cl C s H ex => ⟨(bh (i := 0) (show ((["person"] : List Str) ++ ([] : List Str)).Nodup by decide +kernel) rfl (by first | exact .inl rfl | exact .inr rfl)), eI, zp⟩))
    (ag (iT PassesOwn.never rfl (j3 (mv 1)) (bh (i := 3) dE.nd rfl (by first | exact .inl rfl | exact .inr rfl)) (ag (bK (dB (cJ (aw n8 (hr.mono (by decide)) rfl (ae (mv 0) (ae (mv 3) aq)) ax))) (av ie) aU)
    (ag (aL (i := 4) dE.nd rfl (by first | exact .inl rfl | exact .inr rfl) (bu (mv 3) ah (fun _ _ => rfl)))
    (ag (aL (i := 5) dE.nd rfl (by first | exact .inl rfl | exact .inr rfl) (bu (mv 3) ah (fun _ _ => rfl)))
    (ag (bK (bi (GJ (Nat.lt_of_le_of_lt (Nat.add_le_add_left (by decide) _) hu)) GK (mv 5) (bu (mv 2) (mv 4) (fun _ _ => rfl)) rfl) (av ie) aU)
    (ag (zq (Nat.lt_of_le_of_lt (Nat.add_le_add_left (by decide) _) hu) (bu (mv 3) ah (fun _ _ => rfl)) (bu (mv 2) (mv 4) (fun _ _ => rfl)) (mv 5))
    (av (zq (Nat.lt_of_le_of_lt (Nat.add_le_add_left (by decide) _) hu) (bu (mv 3) ah (fun _ _ => rfl)) (bu (mv 2) (mv 5) (fun _ _ => rfl)) (mv 4)))))))))
    (av (aK (mv 2))))))
theorem tV : aX ["near", "bars"] ["near", "bars"] (ak d6) := ⟨rfl, rfl, rfl, by decide +kernel, rfl, by decide +kernel, by decide +kernel⟩
theorem tW (F : Fun K "bars_told" "bars_told" d6 f fd) (br : mg "tuple" = none) (kQ : mg "all" = none) (bY : mg "len" = none) (aC : mg "isinstance" = none) (eQ : mg "list" = none) (fM : Def P w K mg base "is_whole" 1 1 bR) : ce P w K mg base CX0 2 f fd ["near", "bars"] (spF K dj 2) := by
  refine cG F tV fun cdv A outer s H E hr => ?_
  have hu := d9 hr
  exact (ag (bK (bi sL sW (mv 1) de (aW _)) (av ie) aU)
    (ag (bK (MW.mt (kx (dB (cJ (fS (t := .list) rfl aC rfl eQ (by decide +kernel) (mv 1)))) (eO (bi (ic hu) kz (eh rfl bY (eM (mv 1))) (eh rfl bY (eM (mv 0))) (aW _)) (.inr rfl)))) (av ie) aU)
    (ag (bK (dB (cJ (wV rfl rfl kQ (fB (ei (own := ["bar"]) (capn := []) (caps := []) rfl (cr.mk' rfl (by decide +kernel) (by decide +kernel) (by repeat' (first | exact bj.nil | refine bj.cons (by first | exact (fun _ => .inl rfl) | exact (fun _ => .inr rfl) | (intro z; cases z; done)) ?_)) bW.nil) (j3 (mv 1))
      (fun cl C s H ex => ⟨(bh (i := 0) (show ((["bar"] : List Str) ++ ([] : List Str)).Nodup by decide +kernel) rfl (by first | exact .inl rfl | exact .inr rfl)), eI, (aw fM (hr.mono (by decide)) rfl (ae (mv 0) aq) ax)⟩)))))) (av ie) aU)
    (av (aK (fR rfl br (eM (mv 1))))))))
theorem pA : aX ["many", "stays"] ["many", "stays"] (ak du) := ⟨rfl, rfl, rfl, by decide +kernel, rfl, by decide +kernel, by decide +kernel⟩
theorem pB (F : Fun K "stays_told" "stays_told" du f fd) (br : mg "tuple" = none) (kQ : mg "all" = none) (bY : mg "len" = none) (aC : mg "isinstance" = none) (eQ : mg "list" = none) (bA : mg "range" = none) (eu : Def P w K mg base "is_opinion" 3 1 a0) : ce P w K mg base CX0 4 f fd ["many", "stays"] (spF K cO 2) := by
  refine cG F pA fun cdv A outer s H E hr => ?_
  have hu := d9 hr
  exact (ag (bK (bi sL sW (mv 1) de (aW _)) (av (aK (fR rfl br (fB (ei (own := ["person"]) (capn := []) (caps := []) rfl (cr.mk' rfl (by decide +kernel) (by decide +kernel) (by repeat' (first | exact bj.nil | refine bj.cons (by first | exact (fun _ => .inl rfl) | exact (fun _ => .inr rfl) | (intro z; cases z; done)) ?_)) bW.nil) (df rfl bA (mv 0))
      (fun cl C s H ex => ⟨(bh (i := 0) (show ((["person"] : List Str) ++ ([] : List Str)).Nodup by decide +kernel) rfl (by first | exact .inl rfl | exact .inr rfl)), eI, de⟩)))))) aU)
    (ag (bK (MW.mt (kx (dB (cJ (fS (t := .list) rfl aC rfl eQ (by decide +kernel) (mv 1)))) (eO (bi (ic hu) kz (eh rfl bY (eM (mv 1))) (mv 0) (aW _)) (.inr rfl)))) (av ie) aU)
    (ag (bK (dB (cJ (wV rfl rfl kQ (fB (ei (own := ["stay"]) (capn := []) (caps := []) rfl (cr.mk' rfl (by decide +kernel) (by decide +kernel) (by repeat' (first | exact bj.nil | refine bj.cons (by first | exact (fun _ => .inl rfl) | exact (fun _ => .inr rfl) | (intro z; cases z; done)) ?_)) bW.nil) (j3 (mv 1))
      (fun cl C s H ex => ⟨(bh (i := 0) (show ((["stay"] : List Str) ++ ([] : List Str)).Nodup by decide +kernel) rfl (by first | exact .inl rfl | exact .inr rfl)), eI, (MB.me (FC (fA (ge sL sW (mv 0) de (aW _))) (j2 (fA (aw eu (hr.mono (by decide)) rfl (ae (mv 0) aq) ax)))))⟩)))))) (av ie) aU)
    (av (aK (fR rfl br (eM (mv 1))))))))
theorem lL : aX ["many", "ties", "bars", "stays", "near", "rows"] ["many", "ties", "bars", "stays"] (ak gL) := ⟨rfl, rfl, rfl, by decide +kernel, rfl, by decide +kernel, by decide +kernel⟩
theorem AJ (F : Fun K "web_of" "web_of" gL f fd) (br : mg "tuple" = none) (n9 : mg "sorted" = none) {gk : Tok} (gl : mg "MOST_PEOPLE" = some (.int 30 gk)) (im : Def P w K mg base "stays_told" 4 2 cO) (i7 : Def P w K mg base "bars_told" 2 2 dj) (io : Def P w K mg base "neighbours" 4 2 cN) (bU : Def P w K mg base "is_between" 2 3 aZ) : ce P w K mg base CX0 5 f fd ["many", "ties", "bars", "stays"] (spF K gG 4) := by
  refine cG F lL fun cdv A outer s H E hr => ?_
  have hu := d9 hr
  exact (ag (bK (dB (cJ (aw bU (hr.mono (by decide)) rfl (ae (mv 0) (ae ah (ae (uP rfl gl) aq))) ax))) (av ie) aU)
    (ag (aL (i := 4) lL.nd rfl (by first | exact .inl rfl | exact .inr rfl) (aw io (hr.mono (by decide)) rfl (ae (mv 0) (ae (mv 1) aq)) ax))
    (ag (aL (i := 5) lL.nd rfl (by first | exact .inl rfl | exact .inr rfl) (fR rfl br (fB (ei (own := ["row"]) (capn := []) (caps := []) rfl (cr.mk' rfl (by decide +kernel) (by decide +kernel) (by repeat' (first | exact bj.nil | refine bj.cons (by first | exact (fun _ => .inl rfl) | exact (fun _ => .inr rfl) | (intro z; cases z; done)) ?_)) bW.nil) (j3 (mv 4))
      (fun cl C s H ex => ⟨(bh (i := 0) (show ((["row"] : List Str) ++ ([] : List Str)).Nodup by decide +kernel) rfl (by first | exact .inl rfl | exact .inr rfl)), eI, (fR rfl br (fB (Cy rfl rfl n9 (mv 0))))⟩)))))
    (av (aK (dL (ae (mv 5) (ae (aw i7 (hr.mono (by decide)) rfl (ae (mv 4) (ae (mv 2) aq)) ax) (ae (aw im (hr.mono (by decide)) rfl (ae (mv 0) (ae (mv 3) aq)) ax) aq)))))))))
theorem xt : aX ["web"] ["web"] (ak fk) := ⟨rfl, rfl, rfl, by decide +kernel, rfl, by decide +kernel, by decide +kernel⟩
theorem xu (F : Fun K "many_of" "many_of" fk f fd) (bY : mg "len" = none) : ce P w K mg base CX0 1 f fd ["web"] (spF K cD 1) := by
  refine cG F xt fun cdv A outer s H E hr => ?_
  have hu := d9 hr
  exact (av (aK (eh rfl bY (eM (bu (mv 0) ah (fun _ _ => rfl))))))
theorem xv : aX ["web", "person"] ["web", "person"] (ak fm) := ⟨rfl, rfl, rfl, by decide +kernel, rfl, by decide +kernel, by decide +kernel⟩
theorem xw (F : Fun K "ties_of" "ties_of" fm f fd) : ce P w K mg base CX0 1 f fd ["web", "person"] (spF K gD 2) := by
  refine cG F xv fun cdv A outer s H E hr => ?_
  have hu := d9 hr
  exact (av (aK (bu (bu (mv 0) ah (fun _ _ => rfl)) (mv 1) (fun _ _ => rfl))))
theorem AK : aX ["web", "person"] ["web", "person"] (ak gM) := ⟨rfl, rfl, rfl, by decide +kernel, rfl, by decide +kernel, by decide +kernel⟩
theorem AL (F : Fun K "bar_of" "bar_of" gM f fd) : ce P w K mg base CX0 1 f fd ["web", "person"] (spF K gE 2) := by
  refine cG F AK fun cdv A outer s H E hr => ?_
  have hu := d9 hr
  exact (av (aK (bu (bu (mv 0) ah (fun _ _ => rfl)) (mv 1) (fun _ _ => rfl))))
theorem xx : aX ["web", "person"] ["web", "person"] (ak fq) := ⟨rfl, rfl, rfl, by decide +kernel, rfl, by decide +kernel, by decide +kernel⟩
theorem xy (F : Fun K "stay_of" "stay_of" fq f fd) : ce P w K mg base CX0 1 f fd ["web", "person"] (spF K dW 2) := by
  refine cG F xx fun cdv A outer s H E hr => ?_
  have hu := d9 hr
  exact (av (aK (bu (bu (mv 0) ah (fun _ _ => rfl)) (mv 1) (fun _ _ => rfl))))
theorem mX : aX ["web", "thing", "person", "opinion", "stay"] ["web", "thing"] (ak lH) := ⟨rfl, rfl, rfl, by decide +kernel, rfl, by decide +kernel, by decide +kernel⟩
theorem EW (F : Fun K "fits" "fits" lH f fd) (d8 : mg "enumerate" = none) (bY : mg "len" = none) (aC : mg "isinstance" = none) (br : mg "tuple" = none) (gP : Def P w K mg base "stay_of" 1 2 dW) (eu : Def P w K mg base "is_opinion" 3 1 a0) (gQ : Def P w K mg base "many_of" 1 1 cD) : ce P w K mg base CX0 4 f fd ["web", "thing"] (spF K cM 2) := by
  refine cG F mX fun cdv A outer s H E hr => ?_
  have hu := d9 hr
  exact (ag (bK (MW.mt (kx (dB (cJ (fS (t := .tuple) rfl aC rfl br (by decide +kernel) (mv 1)))) (eO (bi (ic hu) kz (eh rfl bY (eM (mv 1))) (aw gQ (hr.mono (by decide)) rfl (ae (mv 0) aq) ax) (aW _)) (.inr rfl)))) (av (aK dU)) aU)
    (ag (iT PassesOwn.never rfl (zm rfl d8 (mv 1)) (ny rfl (cA (bh (i := 2) mX.nd rfl (by first | exact .inl rfl | exact .inr rfl)) (cA (bh (i := 3) mX.nd rfl (by first | exact .inl rfl | exact .inr rfl)) kA))) (ag (bK (dB (cJ (aw eu (hr.mono (by decide)) rfl (ae (mv 3) aq) ax))) (av (aK dU)) aU)
    (ag (aL (i := 4) mX.nd rfl (by first | exact .inl rfl | exact .inr rfl) (aw gP (hr.mono (by decide)) rfl (ae (mv 0) (ae (mv 2) aq)) ax))
    (av (bK (MW.mt (wM (bi mM jd (mv 4) de (aW _)) (eO (bi (ic hu) kz (mv 3) (mv 4) (aW _)) (.inl rfl)))) (av (aK dU)) aU)))))
    (av (aK dU))))
theorem nY : aX ["web", "thing"] ["web", "thing"] (ak cU) := ⟨rfl, rfl, rfl, by decide +kernel, rfl, by decide +kernel, by decide +kernel⟩
theorem xz : aX ["web", "stand", "person"] ["web", "stand", "person"] (ak ft) := ⟨rfl, rfl, rfl, by decide +kernel, rfl, by decide +kernel, by decide +kernel⟩
theorem xA (F : Fun K "pull_at" "pull_at" ft f fd) (Ds : mg "sum" = none) (lN : Def P w K mg base "ties_of" 1 2 gD) : ce P w K mg base CX0 2 f fd ["web", "stand", "person"] (spF K dX 3) := by
  refine cG F xz fun cdv A outer s H E hr => ?_
  have hu := d9 hr
  exact (av (aK (aF g0 hV ah (Go rfl rfl Ds (fB (ei (own := ["other", "weight"]) (capn := ["stand"]) (caps := [1]) rfl (cr.mk' rfl (by decide +kernel) (by decide +kernel) (by repeat' (first | exact bj.nil | refine bj.cons (by first | exact (fun _ => .inl rfl) | exact (fun _ => .inr rfl) | (intro z; cases z; done)) ?_)) (bW.cons rfl rfl bW.nil)) (j3 (aw lN (hr.mono (by decide)) rfl (ae (mv 0) (ae (mv 2) aq)) ax))
      (fun cl C s H ex => ⟨(ny rfl (cA (bh (i := 0) (show ((["other", "weight"] : List Str) ++ (["stand"] : List Str)).Nodup by decide +kernel) rfl (by first | exact .inl rfl | exact .inr rfl)) (cA (bh (i := 1) (show ((["other", "weight"] : List Str) ++ (["stand"] : List Str)).Nodup by decide +kernel) rfl (by first | exact .inl rfl | exact .inr rfl)) kA))), (tj (bi (c6 hu) ez (bu (mv 2) (mv 0) (fun _ _ => rfl)) ah (aW _))), (mv 1)⟩)))))))
theorem EX : aX ["web", "stand", "person"] ["web", "stand", "person"] (ak lI) := ⟨rfl, rfl, rfl, by decide +kernel, rfl, by decide +kernel, by decide +kernel⟩
theorem ik : aX ["web", "stand", "person", "stay", "strength", "bar"] ["web", "stand", "person"] (ak fu) := ⟨rfl, rfl, rfl, by decide +kernel, rfl, by decide +kernel, by decide +kernel⟩
theorem xB (F : Fun K "next_at" "next_at" fu f fd) (og : Def P w K mg base "bar_of" 1 2 gE) (gR : Def P w K mg base "pull_at" 2 3 dX) (gP : Def P w K mg base "stay_of" 1 2 dW) : ce P w K mg base CX0 3 f fd ["web", "stand", "person"] (spF K dl 3) := by
  refine cG F ik fun cdv A outer s H E hr => ?_
  have hu := d9 hr
  exact (ag (aL (i := 3) ik.nd rfl (by first | exact .inl rfl | exact .inr rfl) (aw gP (hr.mono (by decide)) rfl (ae (mv 0) (ae (mv 2) aq)) ax))
    (ag (bK (bi mM jd (mv 3) de (aW _)) (av (aK (mv 3))) aU)
    (ag (aL (i := 4) ik.nd rfl (by first | exact .inl rfl | exact .inr rfl) (aw gR (hr.mono (by decide)) rfl (ae (mv 0) (ae (mv 1) (ae (mv 2) aq))) ax))
    (ag (aL (i := 5) ik.nd rfl (by first | exact .inl rfl | exact .inr rfl) (aw og (hr.mono (by decide)) rfl (ae (mv 0) (ae (mv 2) aq)) ax))
    (ag (bK (bi (c6 hu) ez (mv 4) (mv 5) (aW _)) (av (aK (bu (mv 1) (mv 2) (fun _ _ => rfl)))) aU)
    (av (aK (Io (bi Fx z8 (mv 4) (mv 5) (aW _)) ah ah))))))))
theorem xC : aX ["web", "stand", "person"] ["web", "stand", "person"] (ak fv) := ⟨rfl, rfl, rfl, by decide +kernel, rfl, by decide +kernel, by decide +kernel⟩
theorem xD : aX ["web", "stand"] ["web", "stand"] (ak fw) := ⟨rfl, rfl, rfl, by decide +kernel, rfl, by decide +kernel, by decide +kernel⟩
theorem xE (F : Fun K "turn_at" "turn_at" fw f fd) (br : mg "tuple" = none) (bA : mg "range" = none) (gQ : Def P w K mg base "many_of" 1 1 cD) (gS : Def P w K mg base "next_at" 3 3 dl) : ce P w K mg base CX0 4 f fd ["web", "stand"] (spF K gF 2) := by
  refine cG F xD fun cdv A outer s H E hr => ?_
  have hu := d9 hr
  exact (av (aK (fR rfl br (fB (ei (own := ["person"]) (capn := ["web", "stand"]) (caps := [0, 1]) rfl (cr.mk' rfl (by decide +kernel) (by decide +kernel) (by repeat' (first | exact bj.nil | refine bj.cons (by first | exact (fun _ => .inl rfl) | exact (fun _ => .inr rfl) | (intro z; cases z; done)) ?_)) (bW.cons rfl rfl (bW.cons rfl rfl bW.nil))) (df rfl bA (aw gQ (hr.mono (by decide)) rfl (ae (mv 0) aq) ax))
      (fun cl C s H ex => ⟨(bh (i := 0) (show ((["person"] : List Str) ++ (["web", "stand"] : List Str)).Nodup by decide +kernel) rfl (by first | exact .inl rfl | exact .inr rfl)), eI, (aw gS (hr.mono (by decide)) rfl (ae (mv 1) (ae (mv 2) (ae (mv 0) aq))) ax)⟩))))))
theorem EY : aX ["web", "stand"] ["web", "stand"] (ak lJ) := ⟨rfl, rfl, rfl, by decide +kernel, rfl, by decide +kernel, by decide +kernel⟩
theorem vB : aX ["one", "other"] ["one", "other"] (ak eD) := ⟨rfl, rfl, rfl, by decide +kernel, rfl, by decide +kernel, by decide +kernel⟩
theorem vC (F : Fun K "is_below" "is_below" eD f fd) (kQ : mg "all" = none) (Dt : mg "zip" = none) : ce P w K mg base CX0 1 f fd ["one", "other"] (spF K bS 2) := by
  refine cG F vB fun cdv A outer s H E hr => ?_
  have hu := d9 hr
  exact (av (aK (wV rfl rfl kQ (fB (ei (own := ["opinion", "above"]) (capn := []) (caps := []) rfl (cr.mk' rfl (by decide +kernel) (by decide +kernel) (by repeat' (first | exact bj.nil | refine bj.cons (by first | exact (fun _ => .inl rfl) | exact (fun _ => .inr rfl) | (intro z; cases z; done)) ?_)) bW.nil) (GR rfl Dt (mv 0) (mv 1))
      (fun cl C s H ex => ⟨(ny rfl (cA (bh (i := 0) (show ((["opinion", "above"] : List Str) ++ ([] : List Str)).Nodup by decide +kernel) rfl (by first | exact .inl rfl | exact .inr rfl)) (cA (bh (i := 1) (show ((["opinion", "above"] : List Str) ++ ([] : List Str)).Nodup by decide +kernel) rfl (by first | exact .inl rfl | exact .inr rfl)) kA))), eI, (ge BW z8 (mv 0) (mv 1) (aW _))⟩))))))
theorem dF : aX ["_law_script", "_law_k", "_law_cell", "_law_mixed"] ["_law_script", "_law_k"] (ak dw) := ⟨rfl, rfl, rfl, by decide +kernel, rfl, by decide +kernel, by decide +kernel⟩
theorem pC (F : Fun K "_law_state" "_law_state" dw f fd) (bY : mg "len" = none) : ce P w K mg base CX0 1 f fd ["_law_script", "_law_k"] (spF K bL 2) := by
  refine cG F dF fun cdv A outer s H E hr => ?_
  have hu := d9 hr
  exact (ag (aL (i := 2) dF.nd rfl (by first | exact .inl rfl | exact .inr rfl) ah)
    (ag (bK (bi HX z8 (mv 1) (eh rfl bY (eM (mv 0))) (aW _)) (av (aL (i := 2) dF.nd rfl (by first | exact .inl rfl | exact .inr rfl) (bu (mv 0) (mv 1) (fun _ _ => rfl)))) aU)
    (ag (aL (i := 3) dF.nd rfl (by first | exact .inl rfl | exact .inr rfl) (MB.me (FC (fA (ge (c6 hu) ez (eh rfl bY (eM (mv 0))) ah (aW _))) (j2 (fA (ge (c6 hu) ez (aF cY cZ (bu (mv 0) ah (fun _ _ => rfl)) ah) ah (aW _)))))))
    (ag (bK (cJ (mv 3)) (av (aL (i := 2) dF.nd rfl (by first | exact .inl rfl | exact .inr rfl) (aF bz bQ (aF cY cZ (mv 2) ah) (aF g0 hV ah (mv 1))))) aU)
    (av (aK (eg (cK (ae (mv 2) (ae ah (ae (mv 3) aq))) (fun _ _ _ _ z => by rw [(ay (ay (ay bG))) _ _ _ _ z]; decide)))))))))
theorem eK : aX ["_law_state_here", "_law_most", "_law_number", "_law_found"] ["_law_state_here", "_law_most"] (ak dy) := ⟨rfl, rfl, rfl, by decide +kernel, rfl, by decide +kernel, by decide +kernel⟩
theorem pD (F : Fun K "_law_digit" "_law_digit" dy f fd) : ce P w K mg base CX0 1 f fd ["_law_state_here", "_law_most"] (spF K aB 2) := by
  refine cG F eK fun cdv A outer s H E hr => ?_
  have hu := d9 hr
  exact (ag (sZ (aF bz bQ (bu (mv 0) ah (fun _ _ => rfl)) ah) (mv 0) ah)
    (ag (bK (cJ (bu (mv 0) ah (fun _ _ => rfl))) (ag (aL (i := 2) eK.nd rfl (by first | exact .inl rfl | exact .inr rfl) (aF cY cZ (aF g0 hV (aF bz bQ (aF bz bQ (bu (mv 0) ah (fun _ _ => rfl)) (aF g0 hV ah (bu (mv 0) ah (fun _ _ => rfl)))) ah) ah) ah))
    (ag (aL (i := 2) eK.nd rfl (by first | exact .inl rfl | exact .inr rfl) (aF cY cZ (aF g0 hV (mv 2) (aF bz bQ (aF cY cZ (mv 2) ah) (bu (mv 0) ah (fun _ _ => rfl)))) ah))
    (av (aK (aF cY cZ (aF cY cZ (aF bz bQ (aF g0 hV (mv 2) (mv 2)) (aF g0 hV ah (mv 2))) ah) (mv 1)))))) aU)
    (ag (aL (i := 3) eK.nd rfl (by first | exact .inl rfl | exact .inr rfl) (aF cY cZ (bu (mv 0) ah (fun _ _ => rfl)) (mv 1)))
    (ag (sZ (aF ef hW (bu (mv 0) ah (fun _ _ => rfl)) (mv 1)) (mv 0) ah)
    (av (aK (mv 3)))))))
theorem vD : aX ["_law_kind", "_law_number", "_law_total"] ["_law_kind", "_law_number", "_law_total"] (ak eE) := ⟨rfl, rfl, rfl, by decide +kernel, rfl, by decide +kernel, by decide +kernel⟩
theorem vE (F : Fun K "_law_bar" "_law_bar" eE f fd) : ce P w K mg base CX0 1 f fd ["_law_kind", "_law_number", "_law_total"] (spF K dI 3) := by
  refine cG F vD fun cdv A outer s H E hr => ?_
  have hu := d9 hr
  exact (ag (bK (bi (c6 hu) ez (mv 0) ah (aW _)) (av (aK (mv 2))) aU)
    (ag (bK (bi (c6 hu) ez (mv 0) ah (aW _)) (av (aK (aF m7 B7 (mv 1) ah))) aU)
    (ag (bK (bi (c6 hu) ez (mv 0) ah (aW _)) (av (aK (aF m7 B7 (aF bz bQ (mv 2) (aF cY cZ (mv 1) ah)) ah))) aU)
    (ag (bK (bi (c6 hu) ez (mv 0) ah (aW _)) (av (aK (aF g0 hV ah (aF cY cZ (mv 1) (aF bz bQ (mv 2) ah))))) aU)
    (av (aK (aF g0 hV (aF bz bQ (aF BV B8 ah ah) (mv 1)) (mh (cK (ae ah (ae zn aq)) (fun _ _ _ _ z => by rw [(ay (ay bG)) _ _ _ _ z]; decide)) (aF cY cZ (mv 1) ah) (fun _ _ => rfl)))))))))
theorem a9 : aX ["_law_script", "_law_head", "_law_many", "_law_thin", "_law_ties", "_law_bars", "_law_stays", "_law_totals", "_law_one", "_law_state_here", "_law_other", "_law_heavy"] ["_law_script"] (ak cV) := ⟨rfl, rfl, rfl, by decide +kernel, rfl, by decide +kernel, by decide +kernel⟩
theorem nZ (F : Fun K "_law_people" "_law_people" cV f fd) (bA : mg "range" = none) (bY : mg "len" = none) (kh : Def P w K mg base "_law_bar" 1 3 dI) (aP : Def P w K mg base "_law_digit" 1 2 aB) (cm : Def P w K mg base "_law_state" 1 2 bL) : ce P w K mg base CX0 2 f fd ["_law_script"] (spF K dM 1) := by
  refine cG F a9 fun cdv A outer s H E hr => ?_
  have hu := d9 hr
  exact (ag (aL (i := 1) a9.nd rfl (by first | exact .inl rfl | exact .inr rfl) (aw cm (hr.mono (by decide)) rfl (ae (mv 0) (ae ah aq)) ax))
    (ag (je (aw aP (hr.mono (by decide)) rfl (ae (mv 1) (ae ah aq)) ax))
    (ag (aL (i := 2) a9.nd rfl (by first | exact .inl rfl | exact .inr rfl) (aF bz bQ ah (aw aP (hr.mono (by decide)) rfl (ae (mv 1) (ae (mh (cK (ae ah (ae ah (ae ah aq))) (fun _ _ _ _ z => by rw [(ay (ay (ay bG))) _ _ _ _ z]; decide)) (aw aP (hr.mono (by decide)) rfl (ae (mv 1) (ae ah aq)) ax) (fun _ _ => rfl)) aq)) ax)))
    (ag (aL (i := 3) a9.nd rfl (by first | exact .inl rfl | exact .inr rfl) (mh (cK (ae ah (ae ah (ae ah aq))) (fun _ _ _ _ z => by rw [(ay (ay (ay bG))) _ _ _ _ z]; decide)) (aw aP (hr.mono (by decide)) rfl (ae (mv 1) (ae ah aq)) ax) (fun _ _ => rfl)))
    (ag (aL (i := 4) a9.nd rfl (by first | exact .inl rfl | exact .inr rfl) (eg (cK aq (fun _ _ _ _ z => by rw [bG _ _ _ _ z]; decide))))
    (ag (aL (i := 5) a9.nd rfl (by first | exact .inl rfl | exact .inr rfl) (eg (cK aq (fun _ _ _ _ z => by rw [bG _ _ _ _ z]; decide))))
    (ag (aL (i := 6) a9.nd rfl (by first | exact .inl rfl | exact .inr rfl) (eg (cK aq (fun _ _ _ _ z => by rw [bG _ _ _ _ z]; decide))))
    (ag (aL (i := 7) a9.nd rfl (by first | exact .inl rfl | exact .inr rfl) (eg (wW (cK (ae ah aq) (fun _ _ _ _ z => by rw [(ay bG) _ _ _ _ z]; decide)) (mv 2))))
    (ag (iT PassesOwn.never rfl (df rfl bA (mv 2)) (bh (i := 8) a9.nd rfl (by first | exact .inl rfl | exact .inr rfl)) (ag (aL (i := 9) a9.nd rfl (by first | exact .inl rfl | exact .inr rfl) (aw cm (hr.mono (by decide)) rfl (ae (mv 0) (ae (aF bz bQ ah (mv 8)) aq)) ax))
    (ag (je (tu (mv 6) (mh (cK (ae de (ae de (ae de (ae ah (ae ah aq))))) (fun _ _ _ _ z => by rw [(ay (ay (ay (ay (ay bG))))) _ _ _ _ z]; decide)) (aw aP (hr.mono (by decide)) rfl (ae (mv 9) (ae ah aq)) ax) (fun _ _ => rfl))))
    (ag (je (tu (mv 5) (dL (ae (aw aP (hr.mono (by decide)) rfl (ae (mv 9) (ae ah aq)) ax) (ae (aw aP (hr.mono (by decide)) rfl (ae (mv 9) (ae ah aq)) ax) aq)))))
    (av (iT PassesOwn.never rfl (df rfl bA (mv 8)) (bh (i := 10) a9.nd rfl (by first | exact .inl rfl | exact .inr rfl)) (av (bK (bi (c6 hu) ez (aw aP (hr.mono (by decide)) rfl (ae (mv 9) (ae (mv 3) aq)) ax) ah (aW _)) (ag (aL (i := 11) a9.nd rfl (by first | exact .inl rfl | exact .inr rfl) (aF bz bQ ah (aw aP (hr.mono (by decide)) rfl (ae (mv 9) (ae (mh (cK (ae ah (ae ah aq)) (fun _ _ _ _ z => by rw [(ay (ay bG)) _ _ _ _ z]; decide)) (aw aP (hr.mono (by decide)) rfl (ae (mv 9) (ae ah aq)) ax) (fun _ _ => rfl)) aq)) ax)))
    (ag (je (GP (mv 4) (aw aP (hr.mono (by decide)) rfl (ae (mv 9) (ae (aF bz bQ (eh rfl bY (eM (mv 4))) ah) aq)) ax) (mh (cK (ae (dL (ae (mv 8) (ae (mv 10) (ae (mv 11) aq)))) (ae (dL (ae (mv 10) (ae (mv 8) (ae (mv 11) aq)))) aq)) (fun _ _ _ _ z => by rw [(ay (ay bG)) _ _ _ _ z]; decide)) (aF cY cZ (mv 11) ah) (fun _ _ => rfl))))
    (ag (sZ (aF bz bQ (bu (mv 7) (mv 8) (fun _ _ => rfl)) (mv 11)) (mv 7) (mv 8))
    (av (sZ (aF bz bQ (bu (mv 7) (mv 10) (fun _ _ => rfl)) (mv 11)) (mv 7) (mv 10)))))) aU))))))))
    (ag (aL (i := 5) a9.nd rfl (by first | exact .inl rfl | exact .inr rfl) (eg (ei (own := ["_law_one"]) (capn := ["_law_totals", "_law_bars"]) (caps := [7, 5]) rfl (cr.mk' rfl (by decide +kernel) (by decide +kernel) (by repeat' (first | exact bj.nil | refine bj.cons (by first | exact (fun _ => .inl rfl) | exact (fun _ => .inr rfl) | (intro z; cases z; done)) ?_)) (bW.cons rfl rfl (bW.cons rfl rfl bW.nil))) (df rfl bA (mv 2))
      (fun cl C s H ex => ⟨(bh (i := 0) (show ((["_law_one"] : List Str) ++ (["_law_totals", "_law_bars"] : List Str)).Nodup by decide +kernel) rfl (by first | exact .inl rfl | exact .inr rfl)), eI, (aw kh (hr.mono (by decide)) rfl (ae (bu (bu (mv 2) (mv 0) (fun _ _ => rfl)) ah (fun _ _ => rfl)) (ae (bu (bu (mv 2) (mv 0) (fun _ _ => rfl)) ah (fun _ _ => rfl)) (ae (bu (mv 1) (mv 0) (fun _ _ => rfl)) aq))) ax)⟩))))
    (av (aK (dL (ae (mv 2) (ae (mv 4) (ae (mv 5) (ae (mv 6) (ae (mv 7) aq))))))))))))))))))
theorem cX : aX ["_law_script", "_law_k", "_law_stays", "_law_state_here", "_law_found", "_law_stay", "_law_held"] ["_law_script", "_law_k", "_law_stays"] (ak dz) := ⟨rfl, rfl, rfl, by decide +kernel, rfl, by decide +kernel, by decide +kernel⟩
theorem pE (F : Fun K "_law_stand" "_law_stand" dz f fd) (br : mg "tuple" = none) (aP : Def P w K mg base "_law_digit" 1 2 aB) (cm : Def P w K mg base "_law_state" 1 2 bL) : ce P w K mg base CX0 2 f fd ["_law_script", "_law_k", "_law_stays"] (spF K dm 3) := by
  refine cG F cX fun cdv A outer s H E hr => ?_
  have hu := d9 hr
  exact (ag (aL (i := 3) cX.nd rfl (by first | exact .inl rfl | exact .inr rfl) (aw cm (hr.mono (by decide)) rfl (ae (mv 0) (ae (mv 1) aq)) ax))
    (ag (aL (i := 4) cX.nd rfl (by first | exact .inl rfl | exact .inr rfl) (eg (cK aq (fun _ _ _ _ z => by rw [bG _ _ _ _ z]; decide))))
    (ag (iT PassesOwn.never rfl (j3 (mv 2)) (bh (i := 5) cX.nd rfl (by first | exact .inl rfl | exact .inr rfl)) (ag (aL (i := 6) cX.nd rfl (by first | exact .inl rfl | exact .inr rfl) (aw aP (hr.mono (by decide)) rfl (ae (mv 3) (ae ah aq)) ax))
    (ag (bK (bi mM jd (mv 5) de (aW _)) (av (aL (i := 6) cX.nd rfl (by first | exact .inl rfl | exact .inr rfl) (mv 5))) aU)
    (av (je (tu (mv 4) (mv 6)))))))
    (av (aK (fR rfl br (eM (mv 4))))))))
theorem d7 : aX ["_law_stand_here", "_law_stays", "_law_x", "_law_at", "_law_one", "_law_still", "_law_odd", "_law_some"] ["_law_stand_here", "_law_stays", "_law_x", "_law_at"] (ak eF) := ⟨rfl, rfl, rfl, by decide +kernel, rfl, by decide +kernel, by decide +kernel⟩
theorem vF (F : Fun K "_law_bad" "_law_bad" eF f fd) (Du : mg "str" = none) (eQ : mg "list" = none) (bY : mg "len" = none) (bA : mg "range" = none) : ce P w K mg base CX0 1 f fd ["_law_stand_here", "_law_stays", "_law_x", "_law_at"] (spF K jt 4) := by
  refine cG F d7 fun cdv A outer s H E hr => ?_
  have hu := d9 hr
  exact (ag (aL (i := 4) d7.nd rfl (by first | exact .inl rfl | exact .inr rfl) (aF cY cZ (mv 3) (eh rfl bY (eM (mv 0)))))
    (ag (zi (i := 5) d7.nd rfl (by first | exact .inl rfl | exact .inr rfl) (own := ["_law_k"]) (capn := ["_law_stays"]) (caps := [1]) rfl (cr.mk' rfl (by decide +kernel) (by decide +kernel) (by repeat' (first | exact bj.nil | refine bj.cons (by first | exact (fun _ => .inl rfl) | exact (fun _ => .inr rfl) | (intro z; cases z; done)) ?_)) (bW.cons rfl rfl bW.nil)) (df rfl bA (eh rfl bY (eM (mv 0))))
      (fun cl C s H ex => ⟨(bh (i := 0) (show ((["_law_k"] : List Str) ++ (["_law_stays"] : List Str)).Nodup by decide +kernel) rfl (by first | exact .inl rfl | exact .inr rfl)), (tj (bi mM jd (bu (mv 1) (mv 0) (fun _ _ => rfl)) de (aW _))), (mv 0)⟩))
    (ag (bK (MW.mt (wM (bi (c6 hu) ez (aF cY cZ (mv 2) ah) ah (aW _)) (eO (bi (ic hu) kz (mv 5) (eg (cK aq (fun _ _ _ _ z => by rw [bG _ _ _ _ z]; decide))) (aW _)) (.inl rfl)))) (ag (aL (i := 4) d7.nd rfl (by first | exact .inl rfl | exact .inr rfl) (bu (mv 5) (aF cY cZ (mv 3) (eh rfl bY (eM (mv 5)))) (fun _ _ => rfl)))
    (av (aK (aF ek el (aF ek el (cB (mv 0) gy (gC (mv 4))) (dL (ae (aF m7 B7 ah (bu (mv 0) (mv 4) (fun _ _ => rfl))) aq))) (cB (mv 0) (gC (aF bz bQ (mv 4) ah)) gy))))) aU)
    (ag (bK (bi (c6 hu) ez (aF cY cZ (mv 2) ah) ah (aW _)) (ag (aL (i := 6) d7.nd rfl (by first | exact .inl rfl | exact .inr rfl) (mh (cK (ae ah (ae zn (ae dU (ae dU (ae de (ae (iS [49] rfl) (ae (dL (ae ah aq)) (ae (aF BV B8 ah ah) aq)))))))) (fun _ _ _ _ z => by rw [(ay (ay (ay (ay (ay (ay (ay (ay bG)))))))) _ _ _ _ z]; decide)) (aF cY cZ (aF ef hW (mv 2) ah) ah) (fun _ _ => rfl)))
    (av (aK (aF ek el (aF ek el (cB (mv 0) gy (gC (mv 4))) (dL (ae (mv 6) aq))) (cB (mv 0) (gC (aF bz bQ (mv 4) ah)) gy))))) aU)
    (ag (aL (i := 7) d7.nd rfl (by first | exact .inl rfl | exact .inr rfl) (eg (cK (ae (aF bz bQ (mv 0) (dL (ae ah aq))) (ae (cB (mv 0) (gC ah) gy) (ae (aF ek el (cB (mv 0) gy (gC (mv 4))) (cB (mv 0) (gC (aF bz bQ (mv 4) ah)) gy)) (ae (eg (Eo rfl eQ (eM (mv 0)))) (ae de aq))))) (fun _ _ _ _ z => by rw [(ay (ay (ay (ay (ay bG))))) _ _ _ _ z]; decide))))
    (ag (je (tu (mv 7) (EI rfl (fB (ei (own := ["_law_held"]) (capn := []) (caps := []) rfl (cr.mk' rfl (by decide +kernel) (by decide +kernel) (by repeat' (first | exact bj.nil | refine bj.cons (by first | exact (fun _ => .inl rfl) | exact (fun _ => .inr rfl) | (intro z; cases z; done)) ?_)) bW.nil) (j3 (mv 0))
      (fun cl C s H ex => ⟨(bh (i := 0) (show ((["_law_held"] : List Str) ++ ([] : List Str)).Nodup by decide +kernel) rfl (by first | exact .inl rfl | exact .inr rfl)), eI, (EE rfl Du (mv 0))⟩))))))
    (av (aK (bu (eg (Et (mv 7) (eg (cK (ae (aF bz bQ (mv 0) (dL (ae (bu (mv 0) ah (fun _ _ => rfl)) aq))) (ae (dL aq) (ae ah (ae zp (ae (dL (ae (mv 0) aq)) (ae dU aq)))))) (fun _ _ _ _ z => by rw [(ay (ay (ay (ay (ay (ay bG)))))) _ _ _ _ z]; decide))))) (aF cY cZ (aF ef hW (mv 2) ah) ah) (fun _ _ => rfl))))))))))
theorem dC : aX ["_law_one", "_law_other", "_law_found", "_law_due"] ["_law_one", "_law_other"] (ak bM) := ⟨rfl, rfl, rfl, by decide +kernel, rfl, by decide +kernel, by decide +kernel⟩
theorem jC (F : Fun K "_law_below_right" "_law_below_right" bM f fd) (aC : mg "isinstance" = none) (lM : mg "bool" = none) (bY : mg "len" = none) (bA : mg "range" = none) (cR : Def P w K mg base "is_below" 1 2 bS) : ce P w K mg base CX0 2 f fd ["_law_one", "_law_other"] (spF K bH 2) := by
  refine cG F dC fun cdv A outer s H E hr => ?_
  have hu := d9 hr
  exact (ag (aL (i := 2) dC.nd rfl (by first | exact .inl rfl | exact .inr rfl) (aw cR (hr.mono (by decide)) rfl (ae (mv 0) (ae (mv 1) aq)) ax))
    (ag (aL (i := 3) dC.nd rfl (by first | exact .inl rfl | exact .inr rfl) (ge (c6 hu) ez (eh rfl bY (fB (ei (own := ["_law_k"]) (capn := ["_law_one", "_law_other"]) (caps := [0, 1]) rfl (cr.mk' rfl (by decide +kernel) (by decide +kernel) (by repeat' (first | exact bj.nil | refine bj.cons (by first | exact (fun _ => .inl rfl) | exact (fun _ => .inr rfl) | (intro z; cases z; done)) ?_)) (bW.cons rfl rfl (bW.cons rfl rfl bW.nil))) (df rfl bA (eh rfl bY (eM (mv 0))))
      (fun cl C s H ex => ⟨(bh (i := 0) (show ((["_law_k"] : List Str) ++ (["_law_one", "_law_other"] : List Str)).Nodup by decide +kernel) rfl (by first | exact .inl rfl | exact .inr rfl)), (tj (MW.mt (wM (bi (c6 hu) ez (bu (mv 1) (mv 0) (fun _ _ => rfl)) ah (aW _)) (eO (bi (c6 hu) ez (bu (mv 2) (mv 0) (fun _ _ => rfl)) ah (aW _)) (.inl rfl))))), (mv 0)⟩)))) ah (aW _)))
    (av (aK (MB.me (ly (fA (fS (t := .bool) rfl aC rfl lM (by decide +kernel) (mv 2))) (j2 (fA (ge (c6 hu) ez (mv 2) (mv 3) (aW _))))))))))
theorem fK : aX ["_law_way", "_law_web", "_law_stand_here", "_law_one", "_law_caught_here", "error"] ["_law_way", "_law_web", "_law_stand_here", "_law_one"] (ak cW) := ⟨rfl, rfl, rfl, by decide +kernel, rfl, by decide +kernel, by decide +kernel⟩
theorem mL (F0 : Fun K "check_stand" "check_stand" cU f fd) (lO : Def P w K mg base "fits" 4 2 cM) {bc : Addr} (lP : PyProof.Rows.OwnCls (Str.ofString "NoStand") bc Js "ValueError.__new__" mg base) : ce P w K mg base (CX1 P w) 5 f fd ["web", "thing"] (spY K mg bw 2) := by
  refine tK F0 nY fun cdv A outer s H E hr => ?_
  have hu := d9 hr
  exact (eJ (CT (dB (cJ (aw lO (hr.mono (by decide)) rfl (ae (mv 0) (ae (mv 1) aq)) ax))) (eJ (CU (n := "NoStand") lP F.excBase_ValueError rfl rfl (fun e s' h => tI h))) EA))
theorem Dq (F0 : Fun K "pull" "pull" lI f fd) (gR : Def P w K mg base "pull_at" 2 3 dX) (dG : i3 P w K mg base "check_stand" 5 2 bw) : ce P w K mg base (CX1 P w) 6 f fd ["web", "stand", "person"] (spY K mg eY 3) := by
  refine tK F0 EX fun cdv A outer s H E hr => ?_
  have hu := d9 hr
  exact (nJ (jj (jg dG (hr.mono (by decide)) rfl (rL (ae (mv 0) (ae (mv 1) aq))) (fun v s' h => tI h.xp) jh))
    (eJ (CS (aK (aw gR (hr.mono (by decide)) rfl (ae (mv 0) (ae (mv 1) (ae (mv 2) aq))) ax)))))
theorem vG (F0 : Fun K "next_of" "next_of" fv f fd) (gS : Def P w K mg base "next_at" 3 3 dl) (dG : i3 P w K mg base "check_stand" 5 2 bw) : ce P w K mg base (CX1 P w) 6 f fd ["web", "stand", "person"] (spY K mg cQ 3) := by
  refine tK F0 xC fun cdv A outer s H E hr => ?_
  have hu := d9 hr
  exact (nJ (jj (jg dG (hr.mono (by decide)) rfl (rL (ae (mv 0) (ae (mv 1) aq))) (fun v s' h => tI h.xp) jh))
    (eJ (CS (aK (aw gS (hr.mono (by decide)) rfl (ae (mv 0) (ae (mv 1) (ae (mv 2) aq))) ax)))))
theorem Dr (F0 : Fun K "turn" "turn" lJ f fd) (lQ : Def P w K mg base "turn_at" 4 2 gF) (dG : i3 P w K mg base "check_stand" 5 2 bw) : ce P w K mg base (CX1 P w) 6 f fd ["web", "stand"] (spY K mg eZ 2) := by
  refine tK F0 EY fun cdv A outer s H E hr => ?_
  have hu := d9 hr
  exact (nJ (jj (jg dG (hr.mono (by decide)) rfl (rL (ae (mv 0) (ae (mv 1) aq))) (fun v s' h => tI h.xp) jh))
    (eJ (CS (aK (aw lQ (hr.mono (by decide)) rfl (ae (mv 0) (ae (mv 1) aq)) ax)))))
theorem n5 (F : Fun K "_law_caught" "_law_caught" cW f fd) (rW : mg "int" = none) (aC : mg "isinstance" = none) (ip : mg "ValueError" = none) {bc : Addr} (gU : mg "NoStand" = some (.ref bc)) {fx : Addr} (lR : mg "NoOrder" = some (.ref fx)) {eG : Addr} (ki : mg "NoPeople" = some (.ref eG)) {gW : Addr} (oh : mg "NoRest" = some (.ref gW)) {jx : Addr} (tX : mg "NoRow" = some (.ref jx)) {gX : Addr} (oj : mg "NoText" = some (.ref gX)) {jy : Addr} (tY : mg "NoWeb" = some (.ref jy)) {fy : Addr} (lS : mg "TooLong" = some (.ref fy)) {fz : Addr} (lU : mg "TooMuch" = some (.ref fz)) {bI : Addr} (i8 : mg "MostError" = some (.ref bI)) (lV : nK K (fun C b => PySem.W.kitOne K (.ref C) (mI (.ref bc)) = some b) [("NoStand", true)]) (t_T0 : nK K (fun C b => PySem.W.kitAny K (.ref C) ([.ref fx, .ref eG, .ref gW, .ref jx, .ref gX, .ref jy, .ref fy, .ref fz].map mI) = some b) [("NoStand", false)]) (iq : nK K (fun C b => PySem.W.kitOne K (.ref C) (mI (.ty "ValueError")) = some b) [("NoStand", true)]) (h_be : PySem.W.subIn K (.ref bI) (.type "BaseException") = some true) (h_is : (PySem.W.clsIn K bI).isSome = true) (h_ty : PySem.W.typeIn K (.ref bI) = some (.type "type")) (h_cs : Am K mg bI ["NoStand"]) (Hn : i3 P w K mg base "pull" 6 3 eY) (AM : i3 P w K mg base "next_of" 6 3 cQ) (Ho : i3 P w K mg base "turn" 6 2 eZ) : ce P w K mg base CX0 7 f fd ["_law_way", "_law_web", "_law_stand_here", "_law_one"] (spF K dN 4) := by
  refine cG F fK fun cdv A outer s H E hr => ?_
  have hu := d9 hr
  exact (ag (aL (i := 4) fK.nd rfl (by first | exact .inl rfl | exact .inr rfl) de)
    (ag (GW (i := 4) (j := 5) (cs := ["NoStand"]) rfl rfl (fun q E => (eJ (CT (bi (c6 hu) ez (mv 0) ah (aW _)) (eJ (jj (jg Hn (hr.mono (by decide)) rfl (rL (ae (mv 1) (ae (mv 2) (ae (mv 3) aq)))) (fun v s' h => h.unwish) jh))) (eJ (CT (bi (c6 hu) ez (mv 0) ah (aW _)) (eJ (jj (jg AM (hr.mono (by decide)) rfl (rL (ae (mv 1) (ae (mv 2) (ae (mv 3) aq)))) (fun v s' h => h.unwish) jh))) (eJ (jj (jg Ho (hr.mono (by decide)) rfl (rL (ae (mv 1) (ae (mv 2) aq))) (fun v s' h => h.unwish) jh)))))))) rfl rfl i8 rfl h_be h_is h_ty fK.nd (by decide) rfl rfl rfl rfl h_cs)
    (ag (bK (bi sL sW (mv 4) de (aW _)) (av (aK (iS [110, 111, 110, 101] rfl))) aU)
    (ag (bK (dB (cJ (zv (tb := [("NoStand", true)]) (v := .ty "ValueError") rfl rfl aC (y4 (v := .ty "ValueError") (u := .type "ValueError") rfl ip (by decide +kernel) rfl) iq (mv 4)))) (av (aK (iS [111, 116, 104, 101, 114] rfl))) aU)
    (ag (bK (cJ (EC (tb := [("NoStand", false)]) (i0 rfl lR (i0 rfl ki (i0 rfl oh (i0 rfl tX (i0 rfl oj (i0 rfl tY (i0 rfl lS (i0 rfl lU Ez)))))))) rfl (by show 8 ≤ sizeLine; decide) rfl aC t_T0 (mv 4))) (av (aK (iS [111, 116, 104, 101, 114] rfl))) aU)
    (av (aK (mh (cK (ae (iS [111, 116, 104, 101, 114] rfl) (ae (iS [115, 116, 97, 110, 100] rfl) aq)) (fun _ _ _ _ z => by rw [(ay (ay bG)) _ _ _ _ z]; decide)) (Eh rfl rW (zv (tb := [("NoStand", true)]) (v := .ref bc) rfl rfl aC (sH (v := .ref bc) rfl gU rfl (by decide)) lV (mv 4))) (fun _ _ => rfl)))))))))
theorem cu : aX ["_law_script", "_law_many", "_law_ties", "_law_bars", "_law_stays", "_law_totals", "_law_web", "_law_stand_here", "_law_state_here", "_law_turn_number", "_law_x", "_law_one", "_law_bad_here", "_law_way", "_law_k", "_law_other", "_law_less", "_law_more"] ["_law_script"] (ak kO) := ⟨rfl, rfl, rfl, by decide +kernel, rfl, by decide +kernel, by decide +kernel⟩
theorem Hl (F : Fun K "law" "law" kO f fd) (bA : mg "range" = none) (br : mg "tuple" = none) (d8 : mg "enumerate" = none) (Dv : mg "max" = none) (cR : Def P w K mg base "is_below" 1 2 bS) (cS : Def P w K mg base "_law_below_right" 2 2 bH) (ev : Def P w K mg base "_law_stand" 2 3 dm) (eL : Def P w K mg base "_law_caught" 7 4 dN) (lO : Def P w K mg base "fits" 4 2 cM) (kj : Def P w K mg base "_law_bad" 1 4 jt) (aP : Def P w K mg base "_law_digit" 1 2 aB) (cm : Def P w K mg base "_law_state" 1 2 bL) (om : Def P w K mg base "web_of" 5 4 gG) (gm : Def P w K mg base "_law_people" 2 1 dM) : ce P w K mg base CX0 8 f fd ["_law_script"] (spF K zD 1) := by
  refine cG F cu fun cdv A outer s H E hr => ?_
  have hu := d9 hr
  exact (ag (Gu (aw gm (hr.mono (by decide)) rfl (ae (mv 0) aq) ax) (ny rfl (cA (bh (i := 1) cu.nd rfl (by first | exact .inl rfl | exact .inr rfl)) (cA (bh (i := 2) cu.nd rfl (by first | exact .inl rfl | exact .inr rfl)) (cA (bh (i := 3) cu.nd rfl (by first | exact .inl rfl | exact .inr rfl)) (cA (bh (i := 4) cu.nd rfl (by first | exact .inl rfl | exact .inr rfl)) (cA (bh (i := 5) cu.nd rfl (by first | exact .inl rfl | exact .inr rfl)) kA)))))))
    (ag (aL (i := 6) cu.nd rfl (by first | exact .inl rfl | exact .inr rfl) (aw om (hr.mono (by decide)) rfl (ae (mv 1) (ae (mv 2) (ae (mv 3) (ae (mv 4) aq)))) ax))
    (ag (aL (i := 7) cu.nd rfl (by first | exact .inl rfl | exact .inr rfl) (aw ev (hr.mono (by decide)) rfl (ae (mv 0) (ae ah (ae (mv 4) aq))) ax))
    (ag (aL (i := 8) cu.nd rfl (by first | exact .inl rfl | exact .inr rfl) (aw cm (hr.mono (by decide)) rfl (ae (mv 0) (ae ah aq)) ax))
    (ag (iT PassesOwn.never rfl (df rfl bA ah) (bh (i := 9) cu.nd rfl (by first | exact .inl rfl | exact .inr rfl)) (ag (aL (i := 10) cu.nd rfl (by first | exact .inl rfl | exact .inr rfl) (aw aP (hr.mono (by decide)) rfl (ae (mv 8) (ae ah aq)) ax))
    (ag (aL (i := 11) cu.nd rfl (by first | exact .inl rfl | exact .inr rfl) (aw aP (hr.mono (by decide)) rfl (ae (mv 8) (ae (mv 1) aq)) ax))
    (ag (aL (i := 12) cu.nd rfl (by first | exact .inl rfl | exact .inr rfl) (aw kj (hr.mono (by decide)) rfl (ae (mv 7) (ae (mv 4) (ae (mv 10) (ae (aw aP (hr.mono (by decide)) rfl (ae (mv 8) (ae ah aq)) ax) aq)))) ax))
    (ag (bK (MW.mt (kx (bi jm jo (aw lO (hr.mono (by decide)) rfl (ae (mv 6) (ae (mv 7) aq)) ax) dU (aW _)) (eO (bi jm jo (aw lO (hr.mono (by decide)) rfl (ae (mv 6) (ae (mv 12) aq)) ax) dU (aW _)) (.inr rfl)))) (av (aK dU)) aU)
    (av (iT PassesOwn.never rfl (df rfl bA ah) (bh (i := 13) cu.nd rfl (by first | exact .inl rfl | exact .inr rfl)) (av (bK (MW.mt (kx (bi (ic hu) kz (aw eL (hr.mono (by decide)) rfl (ae (mv 13) (ae (mv 6) (ae (mv 7) (ae (mv 11) aq)))) ax) (iS [110, 111, 110, 101] rfl) (aW _)) (eO (bi (ic hu) kz (aw eL (hr.mono (by decide)) rfl (ae (mv 13) (ae (mv 6) (ae (mv 12) (ae (mv 11) aq)))) ax) (iS [115, 116, 97, 110, 100] rfl) (aW _)) (.inr rfl)))) (av (aK dU)) aU)))))))))
    (ag (iT PassesOwn.never rfl (df rfl bA ah) (bh (i := 14) cu.nd rfl (by first | exact .inl rfl | exact .inr rfl)) (ag (aL (i := 11) cu.nd rfl (by first | exact .inl rfl | exact .inr rfl) (aw ev (hr.mono (by decide)) rfl (ae (mv 0) (ae (aF bz bQ ah (mv 14)) (ae (eg (wW (cK (ae de aq) (fun _ _ _ _ z => by rw [(ay bG) _ _ _ _ z]; decide)) (mv 1))) aq))) ax))
    (ag (aL (i := 15) cu.nd rfl (by first | exact .inl rfl | exact .inr rfl) (aw ev (hr.mono (by decide)) rfl (ae (mv 0) (ae (aF bz bQ ah (mv 14)) (ae (eg (wW (cK (ae de aq) (fun _ _ _ _ z => by rw [(ay bG) _ _ _ _ z]; decide)) (mv 1))) aq))) ax))
    (ag (bK (bi Fx z8 (mv 14) ah (aW _)) (av (aL (i := 15) cu.nd rfl (by first | exact .inl rfl | exact .inr rfl) (fR rfl br (fB (ei (own := ["_law_at", "_law_held"]) (capn := ["_law_one"]) (caps := [11]) rfl (cr.mk' rfl (by decide +kernel) (by decide +kernel) (by repeat' (first | exact bj.nil | refine bj.cons (by first | exact (fun _ => .inl rfl) | exact (fun _ => .inr rfl) | (intro z; cases z; done)) ?_)) (bW.cons rfl rfl bW.nil)) (zm rfl d8 (mv 15))
      (fun cl C s H ex => ⟨(ny rfl (cA (bh (i := 0) (show ((["_law_at", "_law_held"] : List Str) ++ (["_law_one"] : List Str)).Nodup by decide +kernel) rfl (by first | exact .inl rfl | exact .inr rfl)) (cA (bh (i := 1) (show ((["_law_at", "_law_held"] : List Str) ++ (["_law_one"] : List Str)).Nodup by decide +kernel) rfl (by first | exact .inl rfl | exact .inr rfl)) kA))), eI, (GO rfl rfl Dv (mv 1) (bu (mv 2) (mv 0) (fun _ _ => rfl)))⟩)))))) aU)
    (ag (bK (bi (c6 hu) ez (mv 14) ah (aW _)) (av (aL (i := 15) cu.nd rfl (by first | exact .inl rfl | exact .inr rfl) (aF ek el (aF ek el (cB (mv 15) gy (gC (aF ef hW (mv 1) ah))) (dL (ae ah aq))) (cB (mv 15) (gC (aF bz bQ (aF ef hW (mv 1) ah) ah)) gy)))) aU)
    (av (bK (MW.mt (kx (dB (cJ (aw cS (hr.mono (by decide)) rfl (ae (mv 11) (ae (mv 15) aq)) ax))) (eO (dB (cJ (aw cS (hr.mono (by decide)) rfl (ae (mv 15) (ae (mv 11) aq)) ax))) (.inr rfl)))) (av (aK dU)) aU)))))))
    (ag (aL (i := 16) cu.nd rfl (by first | exact .inl rfl | exact .inr rfl) (aF ek el (aF ek el (cB (mv 7) gy (gC (aF ef hW (mv 1) ah))) (dL (ae ah aq))) (cB (mv 7) (gC (aF bz bQ (aF ef hW (mv 1) ah) ah)) gy)))
    (ag (aL (i := 17) cu.nd rfl (by first | exact .inl rfl | exact .inr rfl) (aF ek el (aF ek el (cB (mv 7) gy (gC (aF ef hW (mv 1) ah))) (dL (ae ah aq))) (cB (mv 7) (gC (aF bz bQ (aF ef hW (mv 1) ah) ah)) gy)))
    (ag (bK (MW.mt (kx (bi jm jo (aw cR (hr.mono (by decide)) rfl (ae (mv 16) (ae (mv 17) aq)) ax) dU (aW _)) (eO (bi jm jo (aw cR (hr.mono (by decide)) rfl (ae (mv 17) (ae (mv 16) aq)) ax) dU (aW _)) (.inr rfl)))) (av (aK dU)) aU)
    (av (aK (MB.me (ly (fA (ge w4 w5 (aw cR (hr.mono (by decide)) rfl (ae (mv 7) (ae (mv 7) aq)) ax) dU (aW _))) (ly (fA (ge w4 w5 (aw cR (hr.mono (by decide)) rfl (ae (mv 16) (ae (mv 7) aq)) ax) dU (aW _))) (j2 (fA (ge w4 w5 (aw cR (hr.mono (by decide)) rfl (ae (mv 7) (ae (mv 17) aq)) ax) dU (aW _))))))))))))))))))
end
theorem kP {α : Type} (us : List α) (hl : us.length = 1) : ∃ x0, us = [x0] := match us, hl with | [x0], _ => ⟨x0, rfl⟩
theorem cb {α : Type} (us : List α) (hl : us.length = 2) : ∃ x0 x1, us = [x0, x1] := match us, hl with | [x0, x1], _ => ⟨x0, x1, rfl⟩
theorem fL {α : Type} (us : List α) (hl : us.length = 3) : ∃ x0 x1 x2, us = [x0, x1, x2] := match us, hl with | [x0, x1, x2], _ => ⟨x0, x1, x2, rfl⟩
theorem n6 {α : Type} (us : List α) (hl : us.length = 4) : ∃ x0 x1 x2 x3, us = [x0, x1, x2, x3] := match us, hl with | [x0, x1, x2, x3], _ => ⟨x0, x1, x2, x3, rfl⟩
theorem Hm {l : PySem.W.OpenLaw} {w : World} {K : PySem.W.Frag} {h : Heap} {mg : Str → Option Value} {fa kl ir iu oo iw i9 ix oq lW lX ot lY xF gn lZ xG l3 l4 l7 xH km iy iz kn gp iA ko dP gq Dw bI bc fx eG gW jx gX jy fy fz : Addr} (X : K.In h) (G : h.Ns mainGlobals mg) (hfa : mg "law" = some (.ref fa))
    {vH vI : Option Addr} {vJ : Array (Option Value)} {vK vL vM vN mx vO : Value}
    (xI : PySem.W.nsIn K mainGlobals "is_whole" = some (some (.ref kl))) (xJ : K.lookup kl = some ⟨vK, vH, .func (PySem.W.fnOf "is_whole" "is_whole" (aY eC) (aS eC) (ak eC) .none vL vM vN vI mx vO), vJ⟩) (fM : PySem.W.codeIn K mx "is_whole" = true) (ou : PySem.W.keepIn K (.ref kl) = true)
    {pF pG : Option Addr} {pH : Array (Option Value)} {pI pJ pK pL jO pM : Value}
    (tZ : PySem.W.nsIn K mainGlobals "is_between" = some (some (.ref ir))) (t7 : K.lookup ir = some ⟨pI, pF, .func (PySem.W.fnOf "is_between" "is_between" (aY dn) (aS dn) (ak dn) .none pJ pK pL pG jO pM), pH⟩) (bU : PySem.W.codeIn K jO "is_between" = true) (kR : PySem.W.keepIn K (.ref ir) = true)
    {pN pO : Option Addr} {pP : Array (Option Value)} {pQ pR pS pT jP pU : Value}
    (t8 : PySem.W.nsIn K mainGlobals "is_opinion" = some (some (.ref iu))) (t9 : K.lookup iu = some ⟨pQ, pN, .func (PySem.W.fnOf "is_opinion" "is_opinion" (aY dq) (aS dq) (ak dq) .none pR pS pT pO jP pU), pP⟩) (eu : PySem.W.codeIn K jP "is_opinion" = true) (kS : PySem.W.keepIn K (.ref iu) = true)
    {AN AO : Option Addr} {AQ : Array (Option Value)} {AR AS AT AU rX AV : Value}
    (Dx : PySem.W.nsIn K mainGlobals "is_tie" = some (some (.ref oo))) (Dy : K.lookup oo = some ⟨AR, AN, .func (PySem.W.fnOf "is_tie" "is_tie" (aY gK) (aS gK) (ak gK) .none AS AT AU AO rX AV), AQ⟩) (n8 : PySem.W.codeIn K rX "is_tie" = true) (vP : PySem.W.keepIn K (.ref oo) = true)
    {pV pW : Option Addr} {pX : Array (Option Value)} {pY pZ p5 p6 jQ p7 : Value}
    (ua : PySem.W.nsIn K mainGlobals "neighbours" = some (some (.ref iw))) (ub : K.lookup iw = some ⟨pY, pV, .func (PySem.W.fnOf "neighbours" "neighbours" (aY dr) (aS dr) (ak dr) .none pZ p5 p6 pW jQ p7), pX⟩) (io : PySem.W.codeIn K jQ "neighbours" = true) (kT : PySem.W.keepIn K (.ref iw) = true)
    {uc ud : Option Addr} {ue : Array (Option Value)} {uf ug uh ui kU uj : Value}
    (vQ : PySem.W.nsIn K mainGlobals "bars_told" = some (some (.ref i9))) (vR : K.lookup i9 = some ⟨uf, uc, .func (PySem.W.fnOf "bars_told" "bars_told" (aY d6) (aS d6) (ak d6) .none ug uh ui ud kU uj), ue⟩) (i7 : PySem.W.codeIn K kU "bars_told" = true) (mz : PySem.W.keepIn K (.ref i9) = true)
    {p8 p9 : Option Addr} {qa : Array (Option Value)} {qb qd qe qf jR qg : Value}
    (uk : PySem.W.nsIn K mainGlobals "stays_told" = some (some (.ref ix))) (ul : K.lookup ix = some ⟨qb, p8, .func (PySem.W.fnOf "stays_told" "stays_told" (aY du) (aS du) (ak du) .none qd qe qf p9 jR qg), qa⟩) (im : PySem.W.codeIn K jR "stays_told" = true) (kW : PySem.W.keepIn K (.ref ix) = true)
    {AW AX : Option Addr} {AY : Array (Option Value)} {AZ A0 A1 A2 rY A3 : Value}
    (Dz : PySem.W.nsIn K mainGlobals "web_of" = some (some (.ref oq))) (DA : K.lookup oq = some ⟨AZ, AW, .func (PySem.W.fnOf "web_of" "web_of" (aY gL) (aS gL) (ak gL) .none A0 A1 A2 AX rY A3), AY⟩) (om : PySem.W.codeIn K rY "web_of" = true) (vS : PySem.W.keepIn K (.ref oq) = true)
    {xK xL : Option Addr} {xM : Array (Option Value)} {xN xO xP xQ ow xR : Value}
    (A4 : PySem.W.nsIn K mainGlobals "many_of" = some (some (.ref lW))) (A5 : K.lookup lW = some ⟨xN, xK, .func (PySem.W.fnOf "many_of" "many_of" (aY fk) (aS fk) (ak fk) .none xO xP xQ xL ow xR), xM⟩) (gQ : PySem.W.codeIn K ow "many_of" = true) (rZ : PySem.W.keepIn K (.ref lW) = true)
    {xS xT : Option Addr} {xU : Array (Option Value)} {xV xW xX xY ox xZ : Value}
    (A6 : PySem.W.nsIn K mainGlobals "ties_of" = some (some (.ref lX))) (A7 : K.lookup lX = some ⟨xV, xS, .func (PySem.W.fnOf "ties_of" "ties_of" (aY fm) (aS fm) (ak fm) .none xW xX xY xT ox xZ), xU⟩) (lN : PySem.W.codeIn K ox "ties_of" = true) (r6 : PySem.W.keepIn K (.ref lX) = true)
    {A8 A9 : Option Addr} {Ba : Array (Option Value)} {Bb Bc Bd Be sd Bf : Value}
    (DB : PySem.W.nsIn K mainGlobals "bar_of" = some (some (.ref ot))) (DC : K.lookup ot = some ⟨Bb, A8, .func (PySem.W.fnOf "bar_of" "bar_of" (aY gM) (aS gM) (ak gM) .none Bc Bd Be A9 sd Bf), Ba⟩) (og : PySem.W.codeIn K sd "bar_of" = true) (vT : PySem.W.keepIn K (.ref ot) = true)
    {x5 x6 : Option Addr} {x8 : Array (Option Value)} {x9 ya yc yd oy ye : Value}
    (Bg : PySem.W.nsIn K mainGlobals "stay_of" = some (some (.ref lY))) (Bh : K.lookup lY = some ⟨x9, x5, .func (PySem.W.fnOf "stay_of" "stay_of" (aY fq) (aS fq) (ak fq) .none ya yc yd x6 oy ye), x8⟩) (gP : PySem.W.codeIn K oy "stay_of" = true) (se : PySem.W.keepIn K (.ref lY) = true)
    {EZ E1 : Option Addr} {E2 : Array (Option Value)} {E3 E4 E5 E6 zN E7 : Value}
    (Hq : PySem.W.nsIn K mainGlobals "fits" = some (some (.ref xF))) (Hr : K.lookup xF = some ⟨E3, EZ, .func (PySem.W.fnOf "fits" "fits" (aY lH) (aS lH) (ak lH) .none E4 E5 E6 E1 zN E7), E2⟩) (lO : PySem.W.codeIn K zN "fits" = true) (DD : PySem.W.keepIn K (.ref xF) = true)
    {oz oA : Option Addr} {oC : Array (Option Value)} {oD oE oF oG ja oH : Value}
    (qh : PySem.W.nsIn K mainGlobals "check_stand" = some (some (.ref gn))) (qi : K.lookup gn = some ⟨oD, oz, .func (PySem.W.fnOf "check_stand" "check_stand" (aY cU) (aS cU) (ak cU) .none oE oF oG oA ja oH), oC⟩) (qj : PySem.W.codeIn K ja "check_stand" = true) (jS : PySem.W.keepIn K (.ref gn) = true)
    {yf yg : Option Addr} {yh : Array (Option Value)} {yi yj yk ym oJ yn : Value}
    (Bi : PySem.W.nsIn K mainGlobals "pull_at" = some (some (.ref lZ))) (Bj : K.lookup lZ = some ⟨yi, yf, .func (PySem.W.fnOf "pull_at" "pull_at" (aY ft) (aS ft) (ak ft) .none yj yk ym yg oJ yn), yh⟩) (gR : PySem.W.codeIn K oJ "pull_at" = true) (sf : PySem.W.keepIn K (.ref lZ) = true)
    {E8 E9 : Option Addr} {Fa : Array (Option Value)} {Fb Fc Fd Fe zO Ff : Value}
    (Hs : PySem.W.nsIn K mainGlobals "pull" = some (some (.ref xG))) (Ht : K.lookup xG = some ⟨Fb, E8, .func (PySem.W.fnOf "pull" "pull" (aY lI) (aS lI) (ak lI) .none Fc Fd Fe E9 zO Ff), Fa⟩) (Hu : PySem.W.codeIn K zO "pull" = true) (DE : PySem.W.keepIn K (.ref xG) = true)
    {yo yp : Option Addr} {yq : Array (Option Value)} {yr yt yu yv oK yw : Value}
    (Bk : PySem.W.nsIn K mainGlobals "next_at" = some (some (.ref l3))) (Bl : K.lookup l3 = some ⟨yr, yo, .func (PySem.W.fnOf "next_at" "next_at" (aY fu) (aS fu) (ak fu) .none yt yu yv yp oK yw), yq⟩) (gS : PySem.W.codeIn K oK "next_at" = true) (sg : PySem.W.keepIn K (.ref l3) = true)
    {yx yy : Option Addr} {yz : Array (Option Value)} {yA yB yC yD oM yE : Value}
    (Bm : PySem.W.nsIn K mainGlobals "next_of" = some (some (.ref l4))) (Bn : K.lookup l4 = some ⟨yA, yx, .func (PySem.W.fnOf "next_of" "next_of" (aY fv) (aS fv) (ak fv) .none yB yC yD yy oM yE), yz⟩) (Bo : PySem.W.codeIn K oM "next_of" = true) (sh : PySem.W.keepIn K (.ref l4) = true)
    {yF yG : Option Addr} {yH : Array (Option Value)} {yI yJ yK yL oN yM : Value}
    (Bp : PySem.W.nsIn K mainGlobals "turn_at" = some (some (.ref l7))) (Bq : K.lookup l7 = some ⟨yI, yF, .func (PySem.W.fnOf "turn_at" "turn_at" (aY fw) (aS fw) (ak fw) .none yJ yK yL yG oN yM), yH⟩) (lQ : PySem.W.codeIn K oN "turn_at" = true) (si : PySem.W.keepIn K (.ref l7) = true)
    {Fg Fh : Option Addr} {Fi : Array (Option Value)} {Fj Fk Fl Fo zP Fp : Value}
    (Hv : PySem.W.nsIn K mainGlobals "turn" = some (some (.ref xH))) (Hw : K.lookup xH = some ⟨Fj, Fg, .func (PySem.W.fnOf "turn" "turn" (aY lJ) (aS lJ) (ak lJ) .none Fk Fl Fo Fh zP Fp), Fi⟩) (Hx : PySem.W.codeIn K zP "turn" = true) (DF : PySem.W.keepIn K (.ref xH) = true)
    {vU vV : Option Addr} {vW : Array (Option Value)} {vX vY vZ v5 mB v6 : Value}
    (yN : PySem.W.nsIn K mainGlobals "is_below" = some (some (.ref km))) (yO : K.lookup km = some ⟨vX, vU, .func (PySem.W.fnOf "is_below" "is_below" (aY eD) (aS eD) (ak eD) .none vY vZ v5 vV mB v6), vW⟩) (cR : PySem.W.codeIn K mB "is_below" = true) (oO : PySem.W.keepIn K (.ref km) = true)
    {qk ql : Option Addr} {qm : Array (Option Value)} {qo qp qq qt jT qu : Value}
    (um : PySem.W.nsIn K mainGlobals "_law_state" = some (some (.ref iy))) (uo : K.lookup iy = some ⟨qo, qk, .func (PySem.W.fnOf "_law_state" "_law_state" (aY dw) (aS dw) (ak dw) .none qp qq qt ql jT qu), qm⟩) (cm : PySem.W.codeIn K jT "_law_state" = true) (kX : PySem.W.keepIn K (.ref iy) = true)
    {qv qw : Option Addr} {qx : Array (Option Value)} {qy qz qA qB jU qC : Value}
    (uq : PySem.W.nsIn K mainGlobals "_law_digit" = some (some (.ref iz))) (ur : K.lookup iz = some ⟨qy, qv, .func (PySem.W.fnOf "_law_digit" "_law_digit" (aY dy) (aS dy) (ak dy) .none qz qA qB qw jU qC), qx⟩) (aP : PySem.W.codeIn K jU "_law_digit" = true) (kY : PySem.W.keepIn K (.ref iz) = true)
    {wa wb : Option Addr} {wc : Array (Option Value)} {wd we wf wg mC wl : Value}
    (yP : PySem.W.nsIn K mainGlobals "_law_bar" = some (some (.ref kn))) (yQ : K.lookup kn = some ⟨wd, wa, .func (PySem.W.fnOf "_law_bar" "_law_bar" (aY eE) (aS eE) (ak eE) .none we wf wg wb mC wl), wc⟩) (kh : PySem.W.codeIn K mC "_law_bar" = true) (oP : PySem.W.keepIn K (.ref kn) = true)
    {oQ oR : Option Addr} {oS : Array (Option Value)} {oT oU oV oW jb oX : Value}
    (qD : PySem.W.nsIn K mainGlobals "_law_people" = some (some (.ref gp))) (qE : K.lookup gp = some ⟨oT, oQ, .func (PySem.W.fnOf "_law_people" "_law_people" (aY cV) (aS cV) (ak cV) .none oU oV oW oR jb oX), oS⟩) (gm : PySem.W.codeIn K jb "_law_people" = true) (jV : PySem.W.keepIn K (.ref gp) = true)
    {qF qG : Option Addr} {qH : Array (Option Value)} {qI qJ qK qL jW qM : Value}
    (ut : PySem.W.nsIn K mainGlobals "_law_stand" = some (some (.ref iA))) (uv : K.lookup iA = some ⟨qI, qF, .func (PySem.W.fnOf "_law_stand" "_law_stand" (aY dz) (aS dz) (ak dz) .none qJ qK qL qG jW qM), qH⟩) (ev : PySem.W.codeIn K jW "_law_stand" = true) (kZ : PySem.W.keepIn K (.ref iA) = true)
    {wm wn : Option Addr} {wo : Array (Option Value)} {wp wq wr wu mD wv : Value}
    (yR : PySem.W.nsIn K mainGlobals "_law_bad" = some (some (.ref ko))) (yS : K.lookup ko = some ⟨wp, wm, .func (PySem.W.fnOf "_law_bad" "_law_bad" (aY eF) (aS eF) (ak eF) .none wq wr wu wn mD wv), wo⟩) (kj : PySem.W.codeIn K mD "_law_bad" = true) (oY : PySem.W.keepIn K (.ref ko) = true)
    {jD jE : Option Addr} {jF : Array (Option Value)} {jG jH jI jJ eT jK : Value}
    (kq : PySem.W.nsIn K mainGlobals "_law_below_right" = some (some (.ref dP))) (kr : K.lookup dP = some ⟨jG, jD, .func (PySem.W.fnOf "_law_below_right" "_law_below_right" (aY bM) (aS bM) (ak bM) .none jH jI jJ jE eT jK), jF⟩) (cS : PySem.W.codeIn K eT "_law_below_right" = true) (fN : PySem.W.keepIn K (.ref dP) = true)
    {oZ o0 : Option Addr} {o3 : Array (Option Value)} {o4 o5 o6 o7 jc o8 : Value}
    (qN : PySem.W.nsIn K mainGlobals "_law_caught" = some (some (.ref gq))) (qO : K.lookup gq = some ⟨o4, oZ, .func (PySem.W.fnOf "_law_caught" "_law_caught" (aY cW) (aS cW) (ak cW) .none o5 o6 o7 o0 jc o8), o3⟩) (eL : PySem.W.codeIn K jc "_law_caught" = true) (jX : PySem.W.keepIn K (.ref gq) = true)
    {Hy DG : Option Addr} {Hz : Array (Option Value)} {HA DH DI DJ yT DK : Value}
    (IJ : PySem.W.nsIn K mainGlobals "law" = some (some (.ref Dw))) (IK : K.lookup Dw = some ⟨HA, Hy, .func (PySem.W.fnOf "law" "law" (aY kO) (aS kO) (ak kO) .none DH DI DJ DG yT DK), Hz⟩) (IL : PySem.W.codeIn K yT "law" = true) (IM : PySem.W.keepIn K (.ref Dw) = true)
    (uw : PySem.W.nsIn K mainGlobals "isinstance" = some none)
    (HB : PySem.W.nsIn K mainGlobals "bool" = some none)
    (IN : PySem.W.nsIn K mainGlobals "int" = some none)
    (IO : PySem.W.nsIn K mainGlobals "len" = some none)
    (Fq : PySem.W.nsIn K mainGlobals "tuple" = some none)
    (Fs : PySem.W.nsIn K mainGlobals "range" = some none)
    (HC : PySem.W.nsIn K mainGlobals "list" = some none)
    (IP : PySem.W.nsIn K mainGlobals "all" = some none)
    (DL : PySem.W.nsIn K mainGlobals "sorted" = some none)
    (ww : PySem.W.nsIn K mainGlobals "enumerate" = some none)
    (IQ : PySem.W.nsIn K mainGlobals "sum" = some none)
    (IR : PySem.W.nsIn K mainGlobals "zip" = some none)
    (IS : PySem.W.nsIn K mainGlobals "str" = some none)
    (ux : PySem.W.nsIn K mainGlobals "ValueError" = some none)
    (IT : PySem.W.nsIn K mainGlobals "max" = some none)
    {gh : Tok} (qP : PySem.W.nsIn K mainGlobals "MOST_WEIGHT" = some (some (.int 400 gh)))
    {gk : Tok} (qQ : PySem.W.nsIn K mainGlobals "MOST_PEOPLE" = some (some (.int 30 gk)))
    {cd_M cd_A_NoStand : ClassData}
    (wx : PySem.W.nsIn K mainGlobals "MostError" = some (some (.ref bI)))
    (gY : PySem.W.nsIn K mainGlobals "NoStand" = some (some (.ref bc)))
    (Br : PySem.W.nsIn K mainGlobals "NoOrder" = some (some (.ref fx)))
    (yU : PySem.W.nsIn K mainGlobals "NoPeople" = some (some (.ref eG)))
    (DM : PySem.W.nsIn K mainGlobals "NoRest" = some (some (.ref gW)))
    (Ft : PySem.W.nsIn K mainGlobals "NoRow" = some (some (.ref jx)))
    (DN : PySem.W.nsIn K mainGlobals "NoText" = some (some (.ref gX)))
    (Fu : PySem.W.nsIn K mainGlobals "NoWeb" = some (some (.ref jy)))
    (Bt : PySem.W.nsIn K mainGlobals "TooLong" = some (some (.ref fy)))
    (Bw : PySem.W.nsIn K mainGlobals "TooMuch" = some (some (.ref fz)))
    (w_be : PySem.W.subIn K (.ref bI) (.type "BaseException") = some true)
    (w_is : PySem.W.clsIn K bI = some cd_M)
    (w_ty : PySem.W.typeIn K (.ref bI) = some (.type "type"))
    (w_own_NoStand : PySem.W.excIn K bc [.type "ValueError", .type "Exception", .type "BaseException", .type "object"] "ValueError.__new__" = true)
    (w_sub_NoStand : PySem.W.subIn K (.ref bc) (.ref bI) = some true)
    (w_z1_NoStand : PySem.W.findIn K (.ref bc) "__getattribute__" = some (some (.builtin "BaseException.__getattribute__")))
    (w_z2_NoStand : PySem.W.findIn K (.ref bc) "__getattr__" = some none)
    (w_z3_NoStand : PySem.W.findIn K (.ref bc) "__class__" = some (some (.builtin "object.__class__")))
    (w_z4_NoStand : PySem.W.subIn K (.ref bc) (.type "BaseException") = some true)
    (w_z5_NoStand : PySem.W.mroIn K bc (.type "object") = some true)
    (w_z6_NoStand : PySem.W.clsIn K bc = some cd_A_NoStand)
    (w_kA_NoStand_NoStand : PySem.W.kitOne K (.ref bc) (.ref bc) = some true)
    (w_kA_NoStand_T0 : PySem.W.kitAny K (.ref bc) [.ref fx, .ref eG, .ref gW, .ref jx, .ref gX, .ref jy, .ref fy, .ref fz] = some false)
    (w_kA_NoStand_ValueError : PySem.W.kitOne K (.ref bc) (.type "ValueError") = some true)
    : ∃ fd : FuncData, (∀ (s : Shared) (v : Value), BindsTo s fd ⟨[v], []⟩ [("_law_script", v)]) ∧ ∀ base : Heap, K.In base → base.Ns mainGlobals mg → ce l.prog w K mg base CX0 8 fa fd ["_law_script"] (spF K zD 1) := by
  have e := hfa.symm.trans (PySem.W.mg_of X G IJ)
  cases e
  have aC := PySem.W.mg_none_of X G uw
  have lM := PySem.W.mg_none_of X G HB
  have rW := PySem.W.mg_none_of X G IN
  have bY := PySem.W.mg_none_of X G IO
  have br := PySem.W.mg_none_of X G Fq
  have bA := PySem.W.mg_none_of X G Fs
  have eQ := PySem.W.mg_none_of X G HC
  have kQ := PySem.W.mg_none_of X G IP
  have n9 := PySem.W.mg_none_of X G DL
  have d8 := PySem.W.mg_none_of X G ww
  have Ds := PySem.W.mg_none_of X G IQ
  have Dt := PySem.W.mg_none_of X G IR
  have Du := PySem.W.mg_none_of X G IS
  have ip := PySem.W.mg_none_of X G ux
  have Dv := PySem.W.mg_none_of X G IT
  have gj := PySem.W.mg_of X G qP
  have gl := PySem.W.mg_of X G qQ
  have i8 := PySem.W.mg_of X G wx
  have gU := PySem.W.mg_of X G gY
  have lR := PySem.W.mg_of X G Br
  have ki := PySem.W.mg_of X G yU
  have oh := PySem.W.mg_of X G DM
  have tX := PySem.W.mg_of X G Ft
  have oj := PySem.W.mg_of X G DN
  have tY := PySem.W.mg_of X G Fu
  have lS := PySem.W.mg_of X G Bt
  have lU := PySem.W.mg_of X G Bw
  have o9 := bC (st := eC) xJ fM ou
  have yV := o9.binds (ps := ["thing"]) fun _ _ _ _ _ _ us hl => by obtain ⟨_, rfl⟩ := kP us hl; rfl
  have k7 := bC (st := dn) t7 bU kR
  have uy := k7.binds (ps := ["thing", "least", "most"]) fun _ _ _ _ _ _ us hl => by obtain ⟨_, _, _, rfl⟩ := fL us hl; rfl
  have k8 := bC (st := dq) t9 eu kS
  have uz := k8.binds (ps := ["thing"]) fun _ _ _ _ _ _ us hl => by obtain ⟨_, rfl⟩ := kP us hl; rfl
  have wy := bC (st := gK) Dy n8 vP
  have DO := wy.binds (ps := ["many", "thing"]) fun _ _ _ _ _ _ us hl => by obtain ⟨_, _, rfl⟩ := cb us hl; rfl
  have lc := bC (st := dr) ub io kT
  have uA := lc.binds (ps := ["many", "ties"]) fun _ _ _ _ _ _ us hl => by obtain ⟨_, _, rfl⟩ := cb us hl; rfl
  have mE := bC (st := d6) vR i7 mz
  have wz := mE.binds (ps := ["near", "bars"]) fun _ _ _ _ _ _ us hl => by obtain ⟨_, _, rfl⟩ := cb us hl; rfl
  have lf := bC (st := du) ul im kW
  have uB := lf.binds (ps := ["many", "stays"]) fun _ _ _ _ _ _ us hl => by obtain ⟨_, _, rfl⟩ := cb us hl; rfl
  have wA := bC (st := gL) DA om vS
  have DP := wA.binds (ps := ["many", "ties", "bars", "stays"]) fun _ _ _ _ _ _ us hl => by obtain ⟨_, _, _, _, rfl⟩ := n6 us hl; rfl
  have sj := bC (st := fk) A5 gQ rZ
  have Bx := sj.binds (ps := ["web"]) fun _ _ _ _ _ _ us hl => by obtain ⟨_, rfl⟩ := kP us hl; rfl
  have so := bC (st := fm) A7 lN r6
  have Bz := so.binds (ps := ["web", "person"]) fun _ _ _ _ _ _ us hl => by obtain ⟨_, _, rfl⟩ := cb us hl; rfl
  have wB := bC (st := gM) DC og vT
  have DQ := wB.binds (ps := ["web", "person"]) fun _ _ _ _ _ _ us hl => by obtain ⟨_, _, rfl⟩ := cb us hl; rfl
  have su := bC (st := fq) Bh gP se
  have BA := su.binds (ps := ["web", "person"]) fun _ _ _ _ _ _ us hl => by obtain ⟨_, _, rfl⟩ := cb us hl; rfl
  have DR := bC (st := lH) Hr lO DD
  have HD := DR.binds (ps := ["web", "thing"]) fun _ _ _ _ _ _ us hl => by obtain ⟨_, _, rfl⟩ := cb us hl; rfl
  have jY := bC (st := cU) qi qj jS
  have qR := jY.binds (ps := ["web", "thing"]) fun _ _ _ _ _ _ us hl => by obtain ⟨_, _, rfl⟩ := cb us hl; rfl
  have sw := bC (st := ft) Bj gR sf
  have BB := sw.binds (ps := ["web", "stand", "person"]) fun _ _ _ _ _ _ us hl => by obtain ⟨_, _, _, rfl⟩ := fL us hl; rfl
  have DS := bC (st := lI) Ht Hu DE
  have HE := DS.binds (ps := ["web", "stand", "person"]) fun _ _ _ _ _ _ us hl => by obtain ⟨_, _, _, rfl⟩ := fL us hl; rfl
  have sx := bC (st := fu) Bl gS sg
  have BC := sx.binds (ps := ["web", "stand", "person"]) fun _ _ _ _ _ _ us hl => by obtain ⟨_, _, _, rfl⟩ := fL us hl; rfl
  have sy := bC (st := fv) Bn Bo sh
  have BD := sy.binds (ps := ["web", "stand", "person"]) fun _ _ _ _ _ _ us hl => by obtain ⟨_, _, _, rfl⟩ := fL us hl; rfl
  have sA := bC (st := fw) Bq lQ si
  have BE := sA.binds (ps := ["web", "stand"]) fun _ _ _ _ _ _ us hl => by obtain ⟨_, _, rfl⟩ := cb us hl; rfl
  have DT := bC (st := lJ) Hw Hx DF
  have HF := DT.binds (ps := ["web", "stand"]) fun _ _ _ _ _ _ us hl => by obtain ⟨_, _, rfl⟩ := cb us hl; rfl
  have pb := bC (st := eD) yO cR oO
  have yW := pb.binds (ps := ["one", "other"]) fun _ _ _ _ _ _ us hl => by obtain ⟨_, _, rfl⟩ := cb us hl; rfl
  have lh := bC (st := dw) uo cm kX
  have uC := lh.binds (ps := ["_law_script", "_law_k"]) fun _ _ _ _ _ _ us hl => by obtain ⟨_, _, rfl⟩ := cb us hl; rfl
  have li := bC (st := dy) ur aP kY
  have uD := li.binds (ps := ["_law_state_here", "_law_most"]) fun _ _ _ _ _ _ us hl => by obtain ⟨_, _, rfl⟩ := cb us hl; rfl
  have pc := bC (st := eE) yQ kh oP
  have yX := pc.binds (ps := ["_law_kind", "_law_number", "_law_total"]) fun _ _ _ _ _ _ us hl => by obtain ⟨_, _, _, rfl⟩ := fL us hl; rfl
  have jZ := bC (st := cV) qE gm jV
  have qS := jZ.binds (ps := ["_law_script"]) fun _ _ _ _ _ _ us hl => by obtain ⟨_, rfl⟩ := kP us hl; rfl
  have lm := bC (st := dz) uv ev kZ
  have uE := lm.binds (ps := ["_law_script", "_law_k", "_law_stays"]) fun _ _ _ _ _ _ us hl => by obtain ⟨_, _, _, rfl⟩ := fL us hl; rfl
  have pd := bC (st := eF) yS kj oY
  have yY := pd.binds (ps := ["_law_stand_here", "_law_stays", "_law_x", "_law_at"]) fun _ _ _ _ _ _ us hl => by obtain ⟨_, _, _, _, rfl⟩ := n6 us hl; rfl
  have fO := bC (st := bM) kr cS fN
  have ku := fO.binds (ps := ["_law_one", "_law_other"]) fun _ _ _ _ _ _ us hl => by obtain ⟨_, _, rfl⟩ := cb us hl; rfl
  have j0 := bC (st := cW) qO eL jX
  have qT := j0.binds (ps := ["_law_way", "_law_web", "_law_stand_here", "_law_one"]) fun _ _ _ _ _ _ us hl => by obtain ⟨_, _, _, _, rfl⟩ := n6 us hl; rfl
  have IU := bC (st := kO) IK IL IM
  refine ⟨PySem.W.fnOf "law" "law" (aY kO) (aS kO) (ak kO) .none DH DI DJ DG yT DK, fun s v => .of_eq rfl, fun base KB _ => ?_⟩
  have lP := GU (mg := mg) KB gU w_own_NoStand
  have l9 : nI K bc := ⟨w_z1_NoStand, w_z2_NoStand, w_z3_NoStand, w_z4_NoStand, w_z5_NoStand, by rw [w_z6_NoStand]; rfl⟩
  have lV : nK K (fun C b => PySem.W.kitOne K (.ref C) (mI (.ref bc)) = some b) [("NoStand", true)] := (tL gY l9 w_kA_NoStand_NoStand wZ)
  have t_T0 : nK K (fun C b => PySem.W.kitAny K (.ref C) ([.ref fx, .ref eG, .ref gW, .ref jx, .ref gX, .ref jy, .ref fy, .ref fz].map mI) = some b) [("NoStand", false)] := (tL gY l9 w_kA_NoStand_T0 wZ)
  have iq : nK K (fun C b => PySem.W.kitOne K (.ref C) (mI (.ty "ValueError")) = some b) [("NoStand", true)] := (tL gY l9 w_kA_NoStand_ValueError wZ)
  have h_cs : Am K mg bI ["NoStand"] := (EB gU gY w_sub_NoStand GV)
  have pe : Def l.prog w K mg base "is_whole" 1 1 bR := Def.mk' (PySem.W.mg_of X G xI) ou yV (vA (P := l.prog) (w := w) (base := base) o9 aC lM rW)
  have iB : Def l.prog w K mg base "is_between" 2 3 aZ := Def.mk' (PySem.W.mg_of X G tZ) kR uy (pv (P := l.prog) (w := w) (base := base) k7 pe)
  have lq : Def l.prog w K mg base "is_opinion" 3 1 a0 := Def.mk' (PySem.W.mg_of X G t8) kS uz (py (P := l.prog) (w := w) (base := base) k8 iB)
  have DU : Def l.prog w K mg base "is_tie" 3 2 i5 := Def.mk' (PySem.W.mg_of X G Dx) vP DO (AI (P := l.prog) (w := w) (base := base) wy bY aC br gj iB)
  have uF : Def l.prog w K mg base "neighbours" 4 2 cN := Def.mk' (PySem.W.mg_of X G ua) kT uA (pz (P := l.prog) (w := w) (base := base) lc bA aC eQ DU)
  have wC : Def l.prog w K mg base "bars_told" 2 2 dj := Def.mk' (PySem.W.mg_of X G vQ) mz wz (tW (P := l.prog) (w := w) (base := base) mE br kQ bY aC eQ pe)
  have uG : Def l.prog w K mg base "stays_told" 4 2 cO := Def.mk' (PySem.W.mg_of X G uk) kW uB (pB (P := l.prog) (w := w) (base := base) lf br kQ bY aC eQ bA lq)
  have DV : Def l.prog w K mg base "web_of" 5 4 gG := Def.mk' (PySem.W.mg_of X G Dz) vS DP (AJ (P := l.prog) (w := w) (base := base) wA br n9 gl uG wC uF iB)
  have sB : Def l.prog w K mg base "many_of" 1 1 cD := Def.mk' (PySem.W.mg_of X G A4) rZ Bx (xu (P := l.prog) (w := w) (base := base) sj bY)
  have BF : Def l.prog w K mg base "ties_of" 1 2 gD := Def.mk' (PySem.W.mg_of X G A6) r6 Bz (xw (P := l.prog) (w := w) (base := base) so)
  have DW : Def l.prog w K mg base "bar_of" 1 2 gE := Def.mk' (PySem.W.mg_of X G DB) vT DQ (AL (P := l.prog) (w := w) (base := base) wB)
  have sC : Def l.prog w K mg base "stay_of" 1 2 dW := Def.mk' (PySem.W.mg_of X G Bg) se BA (xy (P := l.prog) (w := w) (base := base) su)
  have DX : Def l.prog w K mg base "fits" 4 2 cM := Def.mk' (PySem.W.mg_of X G Hq) DD HD (EW (P := l.prog) (w := w) (base := base) DR d8 bY aC br sC lq sB)
  have sD : Def l.prog w K mg base "pull_at" 2 3 dX := Def.mk' (PySem.W.mg_of X G Bi) sf BB (xA (P := l.prog) (w := w) (base := base) sw Ds BF)
  have sE : Def l.prog w K mg base "next_at" 3 3 dl := Def.mk' (PySem.W.mg_of X G Bk) sg BC (xB (P := l.prog) (w := w) (base := base) sx DW sD sC)
  have BG : Def l.prog w K mg base "turn_at" 4 2 gF := Def.mk' (PySem.W.mg_of X G Bp) si BE (xE (P := l.prog) (w := w) (base := base) sA br bA sB sE)
  have pf : Def l.prog w K mg base "is_below" 1 2 bS := Def.mk' (PySem.W.mg_of X G yN) oO yW (vC (P := l.prog) (w := w) (base := base) pb kQ Dt)
  have iC : Def l.prog w K mg base "_law_state" 1 2 bL := Def.mk' (PySem.W.mg_of X G um) kX uC (pC (P := l.prog) (w := w) (base := base) lh bY)
  have iD : Def l.prog w K mg base "_law_digit" 1 2 aB := Def.mk' (PySem.W.mg_of X G uq) kY uD (pD (P := l.prog) (w := w) (base := base) li)
  have yZ : Def l.prog w K mg base "_law_bar" 1 3 dI := Def.mk' (PySem.W.mg_of X G yP) oP yX (vE (P := l.prog) (w := w) (base := base) pc)
  have qU : Def l.prog w K mg base "_law_people" 2 1 dM := Def.mk' (PySem.W.mg_of X G qD) jV qS (nZ (P := l.prog) (w := w) (base := base) jZ bA bY yZ iD iC)
  have uH : Def l.prog w K mg base "_law_stand" 2 3 dm := Def.mk' (PySem.W.mg_of X G ut) kZ uE (pE (P := l.prog) (w := w) (base := base) lm br iD iC)
  have y3 : Def l.prog w K mg base "_law_bad" 1 4 jt := Def.mk' (PySem.W.mg_of X G yR) oY yY (vF (P := l.prog) (w := w) (base := base) pd Du eQ bY bA)
  have kw : Def l.prog w K mg base "_law_below_right" 2 2 bH := Def.mk' (PySem.W.mg_of X G kq) fN ku (jC (P := l.prog) (w := w) (base := base) fO aC lM bY bA pf)
  have gr : i3 l.prog w K mg base "check_stand" 5 2 bw := i3.mk' (PySem.W.mg_of X G qh) jS qR (mL (P := l.prog) (w := w) (base := base) jY DX lP)
  have HG : i3 l.prog w K mg base "pull" 6 3 eY := i3.mk' (PySem.W.mg_of X G Hs) DE HE (Dq (P := l.prog) (w := w) (base := base) DS sD gr)
  have BH : i3 l.prog w K mg base "next_of" 6 3 cQ := i3.mk' (PySem.W.mg_of X G Bm) sh BD (vG (P := l.prog) (w := w) (base := base) sy sE gr)
  have HH : i3 l.prog w K mg base "turn" 6 2 eZ := i3.mk' (PySem.W.mg_of X G Hv) DF HF (Dr (P := l.prog) (w := w) (base := base) DT BG gr)
  have qV : Def l.prog w K mg base "_law_caught" 7 4 dN := Def.mk' (PySem.W.mg_of X G qN) jX qT (n5 (P := l.prog) (w := w) (base := base) j0 rW aC ip gU lR ki oh tX oj tY lS lU i8 lV t_T0 iq w_be (by rw [w_is]; rfl) w_ty h_cs HG BH HH)
  exact Hl (P := l.prog) (w := w) (base := base) IU bA br d8 Dv pf kw uH qV DX y3 iD iC DV qU
end Fm
set_option Elab.async false
set_option linter.all false
set_option maxRecDepth 100000
def PySem.W.Fast.tw90343872475197607 : Type := PySem.Params
theorem PySem.W.Fast.te90343872475197607 : PySem.Params = PySem.W.Fast.tw90343872475197607 := rfl
open PySem PySem.W PyProof.Rows
set_option maxRecDepth 100000 in
set_option maxHeartbeats 0 in
theorem PySem.Challenge.cw_followmost_k05_what_fits_holds : PySem.Challenge.rw_followmost_k05_what_fits.Holds := by
  w_on; o_law; k_head; (case hw => w_witness2)
  k_fill
  refine Fm.Iu (l := PySem.Challenge.rw_followmost_k05_what_fits) (F := Fm.zD) (k := 8) (x := "_law_script") rfl rfl ⟨rfl, by decide, by decide⟩ (fun w h Y => PySem.W.kIn_of Y) ?F Fm.Hk
  case F =>
    intro w mg fa h KX G hmg
    refine' Fm.Hm KX G hmg ?_ ?_ ?_ ?_ ?_ ?_ ?_ ?_ ?_ ?_ ?_ ?_ ?_ ?_ ?_ ?_ ?_ ?_ ?_ ?_ ?_ ?_ ?_ ?_ ?_ ?_ ?_ ?_ ?_ ?_ ?_ ?_ ?_ ?_ ?_ ?_ ?_ ?_ ?_ ?_ ?_ ?_ ?_ ?_ ?_ ?_ ?_ ?_ ?_ ?_ ?_ ?_ ?_ ?_ ?_ ?_ ?_ ?_ ?_ ?_ ?_ ?_ ?_ ?_ ?_ ?_ ?_ ?_ ?_ ?_ ?_ ?_ ?_ ?_ ?_ ?_ ?_ ?_ ?_ ?_ ?_ ?_ ?_ ?_ ?_ ?_ ?_ ?_ ?_ ?_ ?_ ?_ ?_ ?_ ?_ ?_ ?_ ?_ ?_ ?_ ?_ ?_ ?_ ?_ ?_ ?_ ?_ ?_ ?_ ?_ ?_ ?_ ?_ ?_ ?_ ?_ ?_ ?_ ?_ ?_ ?_ ?_ ?_ ?_ ?_ ?_ ?_ ?_ ?_ ?_ ?_ ?_ ?_ ?_ ?_ ?_ ?_ ?_ ?_ ?_ ?_ ?_ ?_ ?_ ?_ ?_ ?_ ?_ ?_ ?_ ?_ ?_ ?_ ?_ ?_ ?_ ?_ ?_ ?_ ?_ ?_
    all_goals try first | k_is | k_exc | kit_is
