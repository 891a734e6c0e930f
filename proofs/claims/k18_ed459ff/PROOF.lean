import PyProof.Rows.All
import Wide.All
import OpenK.AllK
import Wide.FinOn
import Lean
import PyProof.EqAt
import PyProof.EqKinds
import PyProof.TupleCall
import PyProof.NeKinds
import PyProof.IsInstanceH
import PyProof.IsiNone
import PyProof.EnumMake
import PyProof.Draws
import PyProof.ZipIter
import PyProof.ListRange
import KE.RegKIsAll
import PyProof.ExcAttrAll.ValueError
import PyProof.NsDelKeeps
import PySem.Challenge.RW_followmost_k18_settled_by_an_order
set_option Elab.async false
set_option linter.all false
set_option maxRecDepth 100000
namespace L2
open PySem PySem.Spec PyProof.Rows
abbrev Key := Sum Int Str
def GJ : Key → Value → Bool
  | .inl k, v => Value.isInt k v
  | .inr x, v => Value.isStrOf x v
def JN (w : World) : Key → Int
  | .inl k => hashInt k
  | .inr x => hashStr w x
theorem cj : ∀ {k : Key} {v : Value}, GJ k v = true → (∃ i t, k = Sum.inl i ∧ v = Value.int i t) ∨ (∃ x t, k = Sum.inr x ∧ v = Value.str x t)
  | .inl i, v, h => by
    obtain ⟨t, e⟩ := Value.isInt_shape (k := i) (v := v) h
    exact .inl ⟨i, t, rfl, e⟩
  | .inr x, v, h => by
    obtain ⟨t, e⟩ := Value.isStrOf_shape (x := x) (v := v) h
    exact .inr ⟨x, t, rfl, e⟩
theorem G3 (a b : Int) : decide ((Sum.inl a : Key) = Sum.inl b) = (a == b) := by
  by_cases e : a = b
  · subst e; simp
  · have h : ¬ (Sum.inl a : Key) = Sum.inl b := fun q => e (Sum.inl.inj q)
    rw [decide_eq_false h]
    exact (beq_eq_false_iff_ne.mpr e).symm
theorem G4 (a b : Str) : decide ((Sum.inr a : Key) = Sum.inr b) = decide (a = b) := by
  by_cases e : a = b
  · subst e; simp
  · have h : ¬ (Sum.inr a : Key) = Sum.inr b := fun q => e (Sum.inr.inj q)
    rw [decide_eq_false h, decide_eq_false e]
theorem G5 (a : Int) (b : Str) : decide ((Sum.inl a : Key) = Sum.inr b) = false := decide_eq_false (fun q => nomatch q)
theorem G6 (a : Str) (b : Int) : decide ((Sum.inr a : Key) = Sum.inl b) = false := decide_eq_false (fun q => nomatch q)
def AW (prog : Program) (w : World) : PySem.KeyKind prog w Key where
  is := GJ
  hash := JN w
  inj := fun v a b ha hb => by
    rcases cj ha with ⟨i, t, rfl, rfl⟩ | ⟨x, t, rfl, rfl⟩
    · rcases cj hb with ⟨j, u, rfl, e⟩ | ⟨y, u, rfl, e⟩
      · injection e with e1 _; rw [e1]
      · exact nomatch e
    · rcases cj hb with ⟨j, u, rfl, e⟩ | ⟨y, u, rfl, e⟩
      · exact nomatch e
      · injection e with e1 _; rw [e1]
  byValue := fun k v h => by
    rcases cj h with ⟨i, t, rfl, rfl⟩ | ⟨x, t, rfl, rfl⟩ <;> rfl
  pyHash := fun hv h => by
    rcases cj hv with ⟨i, t, rfl, rfl⟩ | ⟨x, t, rfl, rfl⟩
    · exact wpAny_pyHash_int h
    · exact wpAny_pyHash_str h
  eqBool := fun hu hv h => by
    rcases cj hu with ⟨i, t, rfl, rfl⟩ | ⟨x, t, rfl, rfl⟩
    · rcases cj hv with ⟨j, u, rfl, rfl⟩ | ⟨y, u, rfl, rfl⟩
      · rw [G3] at h; exact wpAny_eqBool_int h
      · rw [G5] at h; exact SeqAt.EqAt.int_str i t y u _ _ _ _ h
    · rcases cj hv with ⟨j, u, rfl, rfl⟩ | ⟨y, u, rfl, rfl⟩
      · rw [G6] at h; exact SeqAt.EqAt.str_int x t j u _ _ _ _ h
      · rw [G4] at h; exact wpAny_eqBool_str h
  «strs» := fun k x t v h => by
    rcases cj h with ⟨i, u, rfl, e⟩ | ⟨y, u, rfl, e⟩
    · exact nomatch e
    · injection e with e1 _
      subst e1
      cases v <;> rfl
end L2
namespace L2
open PySem PySem.Spec PyProof.Rows
inductive V where
  | non | bl (b : Bool) | int (i : Int) | str (x : Str) | byt (b : Array UInt8) | flt (b : UInt64) | ref (a : Addr) | ty (n : String)
  deriving DecidableEq
def bK : V → Value → Prop
  | .non, u => u = Value.none
  | .bl b, u => u = Value.bool b
  | .int i, u => ∃ t, u = Value.int i t
  | .str x, u => ∃ t, u = Value.str x t
  | .byt b, u => ∃ t, u = Value.bytes b t
  | .flt b, u => ∃ t, u = Value.float b t
  | .ref a, u => u = Value.ref a
  | .ty n, u => u = Value.type n
abbrev aP : List V → List Value → Prop := Paired bK
theorem aP.length {xs : List V} {us : List Value} (r : aP xs us) : xs.length = us.length := Paired.length r
theorem aP.get : ∀ {xs : List V} {us : List Value} {i : Nat} {x : V}, aP xs us → xs[i]? = some x → ∃ u, us[i]? = some u ∧ bK x u
  | _, _, _, _, .nil, e => by simp at e
  | _, _, 0, _, .cons r _, e => by simp at e; subst e; exact ⟨_, rfl, r⟩
  | _, _, i + 1, x, .cons _ t, e => by
    obtain ⟨u, h1, h2⟩ := aP.get (i := i) (x := x) t (by simpa using e)
    exact ⟨u, by simpa using h1, h2⟩
theorem aP.set {x : V} {u : Value} (r : bK x u) : ∀ {xs : List V} {us : List Value} (i : Nat), aP xs us → aP (xs.set i x) (us.set i u)
  | _, _, _, .nil => .nil
  | _, _, 0, .cons _ t => .cons r t
  | _, _, i + 1, .cons q t => .cons q (aP.set r i t)
theorem aP.append : ∀ {xs ys : List V} {us ws : List Value}, aP xs us → aP ys ws → aP (xs ++ ys) (us ++ ws)
  | _, _, _, _, .nil, s => s
  | _, _, _, _, .cons r t, s => .cons r (aP.append t s)
theorem aP.take : ∀ {xs : List V} {us : List Value} (n : Nat), aP xs us → aP (xs.take n) (us.take n)
  | _, _, 0, _ => .nil
  | _, _, _ + 1, .nil => .nil
  | _, _, n + 1, .cons r t => .cons r (aP.take n t)
theorem aP.drop : ∀ {xs : List V} {us : List Value} (n : Nat), aP xs us → aP (xs.drop n) (us.drop n)
  | _, _, 0, r => r
  | _, _, _ + 1, .nil => .nil
  | _, _, n + 1, .cons _ t => aP.drop n t
def IR : Option V → Option Value → Prop
  | some v, some u => bK v u
  | none, none => True
  | _, _ => False
def KV {κ : Type} : List (κ × V) → List (κ × Value) → Prop := Paired fun (p : κ × V) (q : κ × Value) => p.1 = q.1 ∧ bK p.2 q.2
def kV : Key → V
  | .inl i => .int i
  | .inr x => .str x
inductive HO where
    | lst (xs : List V)
    | tup (xs : List V)
    | dK (kvs : List (Key × V)) | dT (kvs : List (List Key × V))
    | set (S : Int → Bool) (n : Nat)
    | ins (C dx : Addr) (fs : List (Str × V))
    | own (x : Addr)
    | xd (fs : List (Str × V))
    | met (f x : Addr)
    | rng (lo hi : Int)
    | frz (o : Obj) (u : HO)
    | tbl (ps : Array Value)
    | ext (φ : Heap → Prop)
abbrev Hp := Addr → Option HO
def upd (H : Hp) (a : Addr) (o : HO) : Hp := fun b => if b = a then some o else H b
theorem bh {H : Hp} {a : Addr} {o : HO} : upd H a o a = some o := by unfold upd; rw [if_pos rfl]
theorem aD {H : Hp} {a b : Addr} {o : HO} (h : b ≠ a) : upd H a o b = H b := by unfold upd; rw [if_neg h]
theorem aG {H : Hp} {a b : Addr} {o : HO} (h : H a = some o) (h' : H b = none) : a ≠ b := by
  intro e; subst e; rw [h] at h'; cases h'
section
variable (P : Program) (w : World)
def eN (H : Hp) (h : Heap) (a : Addr) : HO → Prop
  | .lst xs => xs.length ≤ sizeLine ∧ ∃ (its : List Value) (n : Nat), aP xs its ∧ h.get? a = some { cls := .type "list", data := .seq its.toArray n }
  | .tup xs => xs.length ≤ sizeLine ∧ ∃ its : List Value, aP xs its ∧ IsTup h a its.toArray
  | .dK kvs => kvs.length ≤ sizeLine ∧ (a == sysModules) = false ∧ ∃ vs, KV kvs vs ∧ h.DictOf (AW P w) a vs
  | .dT kvs => kvs.length ≤ sizeLine ∧ (a == sysModules) = false ∧ ∃ xs : List (List Key × Addr × Value),
      Paired (fun (p : List Key × V) (q : List Key × Addr × Value) => p.1 = q.1 ∧ H q.2.1 = some (.tup (p.1.map kV)) ∧ bK p.2 q.2.2) kvs xs ∧
      ∃ o es ep, h.get? a = some o ∧ o.ExactDict ∧ o.data = .dict es ep ∧ es.toList = xs.map (entryOfKey (tupleKind (AW P w))) ∧ (xs.map (·.1)).Nodup
  | .set S n => h.SetOf (intKind P w) a S n
  | .ins C dx fs => H dx = some (.own a) ∧ fs.length ≤ 1000 ∧ dx ≠ a ∧ h.get? a = some (PySem.W.instObj C dx) ∧
      ∃ mA, h.Ns1 dx mA ∧ (∀ f, IR (fs.lookup f) (mA f)) ∧ PySem.Within mA (fs.map (·.1))
  | .own _ => ∃ o, h.get? a = some o
  | .xd fs => ∃ mA, h.Ns1 a mA ∧ ∀ f, IR (fs.lookup f) (mA f)
  | .rng lo hi => ∃ t u v, h.get? a = some { cls := .type "range", data := .fields #[.int lo t, .int hi u, .int 1 v] }
  | .frz o u => h.get? a = some o ∧ eN H h a u
  | .tbl ps => h.get? a = some { cls := .none, data := .fields ps }
  | .met f x => h.get? a = some (PySem.W.methodObj (.ref f) (.ref x))
  | .ext φ => φ h ∧ (∃ o, h.get? a = some o) ∧ ∀ h1 h2 : Heap, φ h1 → (∀ o, h1.get? a = some o → h2.get? a = some o) → φ h2
def HOk (H : Hp) (h : Heap) : Prop := ∀ a o, H a = some o → eN P w H h a o
end
section
variable {P : Program} {w : World} {H H' : Hp} {h h' : Heap} {a : Addr} {o : HO}
theorem eN.lt (x : eN P w H h a o) : a < h.objs.size := by
  cases o with
  | lst xs => obtain ⟨_, _, _, _, e⟩ := x; exact Heap.lt_size e
  | tup xs => obtain ⟨_, _, _, p⟩ := x; exact p.lt
  | dK kvs => obtain ⟨_, _, _, _, o, _, _, e, _⟩ := x; exact Heap.lt_size e
  | dT kvs => obtain ⟨_, _, _, _, o, _, _, e, _⟩ := x; exact Heap.lt_size e
  | set S n => obtain ⟨o, _, _, _, e, _⟩ := x; exact Heap.lt_size e
  | ins C dx fs => obtain ⟨_, _, _, e, _⟩ := x; exact Heap.lt_size e
  | own y => obtain ⟨_, e⟩ := x; exact Heap.lt_size e
  | xd fs => obtain ⟨_, ⟨_, _, _, e, _⟩, _⟩ := x; exact Heap.lt_size e
  | rng lo hi => obtain ⟨_, _, _, e⟩ := x; exact Heap.lt_size e
  | frz ob u => obtain ⟨e, _⟩ := x; exact Heap.lt_size e
  | tbl ps => exact Heap.lt_size (show h.get? a = some _ from x)
  | met f y => exact Heap.lt_size (show h.get? a = some _ from x)
  | ext φ => obtain ⟨_, ⟨_, e⟩, _⟩ := x; exact Heap.lt_size e
theorem Paired.mapP {α β : Type} {F G : α → β → Prop} : ∀ {l₁ : List α} {l₂ : List β}, Paired F l₁ l₂ → (∀ a b, F a b → G a b) → Paired G l₁ l₂
  | _, _, .nil, _ => .nil
  | _, _, .cons r t, f => .cons (f _ _ r) (Paired.mapP t f)
theorem eN.stay (x : eN P w H h a o) (k : ∀ b u, (b = a ∨ H b = some (.own a)) → h.get? b = some u → h'.get? b = some u)
    (ho : ∀ b, H b = some (.own a) → H' b = some (.own a)) (ht : ∀ b xs, H b = some (.tup xs) → H' b = some (.tup xs)) : eN P w H' h' a o := by
  induction o with
  | lst xs => obtain ⟨z, its, n, r, e⟩ := x; exact ⟨z, its, n, r, k _ _ (.inl rfl) e⟩
  | tup xs => obtain ⟨z, its, r, ob, e, c⟩ := x; exact ⟨z, its, r, ob, k _ _ (.inl rfl) e, c⟩
  | dK kvs => obtain ⟨z, y, vs, r, ob, es, ep, e, c⟩ := x; exact ⟨z, y, vs, r, ob, es, ep, k _ _ (.inl rfl) e, c⟩
  | dT kvs =>
    obtain ⟨z, y, xs, r, ob, es, ep, e, c⟩ := x
    exact ⟨z, y, xs, Paired.mapP r fun p q z => ⟨z.1, ht _ _ z.2.1, z.2.2⟩, ob, es, ep, k _ _ (.inl rfl) e, c⟩
  | set S n => obtain ⟨ob, es, ep, t, e, c⟩ := x; exact ⟨ob, es, ep, t, k _ _ (.inl rfl) e, c⟩
  | ins C dx fs =>
    obtain ⟨d, z, ne, e, mA, ⟨od, es, ep, e2, c⟩, r⟩ := x
    exact ⟨ho _ d, z, ne, k _ _ (.inl rfl) e, mA, ⟨od, es, ep, k _ _ (.inr d) e2, c⟩, r⟩
  | own y => obtain ⟨ob, e⟩ := x; exact ⟨ob, k _ _ (.inl rfl) e⟩
  | xd fs => obtain ⟨mA, ⟨od, es, ep, e, c⟩, r⟩ := x; exact ⟨mA, ⟨od, es, ep, k _ _ (.inl rfl) e, c⟩, r⟩
  | rng lo hi => obtain ⟨t, u, v, e⟩ := x; exact ⟨t, u, v, k _ _ (.inl rfl) e⟩
  | frz ob u ih => obtain ⟨e, q⟩ := x; exact ⟨k _ _ (.inl rfl) e, ih q⟩
  | tbl ps =>
    have e : h.get? a = some { cls := .none, data := .fields ps } := x
    show h'.get? a = some { cls := .none, data := .fields ps }
    exact k a _ (.inl rfl) e
  | met f y =>
    have e : h.get? a = some (PySem.W.methodObj (.ref f) (.ref y)) := x
    show h'.get? a = some (PySem.W.methodObj (.ref f) (.ref y))
    exact k a _ (.inl rfl) e
  | ext φ => obtain ⟨p, ⟨o, e⟩, st⟩ := x; exact ⟨st _ _ p fun o q => k _ _ (.inl rfl) q, ⟨o, k _ _ (.inl rfl) e⟩, st⟩
theorem HOk.lt (x : HOk P w H h) (e : H a = some o) : a < h.objs.size := (x a o e).lt
theorem HOk.fresh (x : HOk P w H h) (e : h.objs.size ≤ a) : H a = none := by
  cases q : H a with
  | none => rfl
  | some u => exact absurd (Nat.lt_of_lt_of_le (x.lt q) e) (Nat.lt_irrefl _)
theorem HOk.kept (x : HOk P w H h) (k : ∀ b u, h.get? b = some u → h'.get? b = some u) : HOk P w H h' := fun a o e =>
  (x a o e).stay (fun b u _ q => k b u q) (fun _ q => q) fun _ _ q => q
theorem HOk.laid (x : HOk P w H h) (k : ∀ b u, h.get? b = some u → h'.get? b = some u) (hp : h.objs.size ≤ a) (new : eN P w (upd H a o) h' a o) : HOk P w (upd H a o) h' := fun b u e => by
  have hn := x.fresh hp
  by_cases hb : b = a
  · subst hb; rw [bh] at e; cases e; exact new
  · rw [aD hb] at e
    exact (x b u e).stay (fun c v _ q => k c v q) (fun c q => by rw [aD (aG q hn)]; exact q) fun c xs q => by rw [aD (aG q hn)]; exact q
end
def Rd (H : Hp) (a : Addr) (u : HO) : Prop := H a = some u ∨ ∃ o, H a = some (.frz o u)
theorem Rd.ok {P : Program} {w : World} {H : Hp} {h : Heap} {a : Addr} {u : HO} (r : Rd H a u) (x : HOk P w H h) : eN P w H h a u := by
  rcases r with r | ⟨o, r⟩
  · exact x a u r
  · obtain ⟨_, q⟩ := x a _ r
    exact q
def Mut : Option HO → Prop
  | some (.lst _) => True
  | some (.dK _) => True
  | some (.dT _) => True
  | some (.set _ _) => True
  | some (.ins _ _ _) => True
  | some (.ext _) => True
  | _ => False
section
variable {P : Program} {w : World} {H : Hp} {h h' : Heap} {x e : Addr} {o' : HO}
theorem HOk.write (ok : HOk P w H h) (mu : Mut (H x)) (he : e = x ∨ H e = some (.own x)) (k : ∀ b u, b ≠ e → h.get? b = some u → h'.get? b = some u) (heo : ∃ u, h'.get? e = some u)
    (new : eN P w (upd H x o') h' x o') : HOk P w (upd H x o') h' := fun b u q => by
  have nown : ∀ c y, H c = some (.own y) → c ≠ x := fun c y r z => by subst z; rw [r] at mu; exact mu
  have ntup : ∀ c xs, H c = some (.tup xs) → c ≠ x := fun c xs r z => by subst z; rw [r] at mu; exact mu
  by_cases hb : b = x
  · subst hb; rw [bh] at q; cases q; exact new
  · rw [aD hb] at q
    by_cases hbe : b = e
    · have q' : H b = some (.own x) := by
        rcases he with z | z
        · exact absurd (hbe.trans z) hb
        · rw [hbe]; exact z
      rw [q] at q'; cases q'
      obtain ⟨v, hv⟩ := heo
      exact ⟨v, by rw [hbe]; exact hv⟩
    · refine (ok b u q).stay (fun c v hc r => k c v ?_ r) (fun c r => by rw [aD (nown c b r)]; exact r) fun c xs r => by rw [aD (ntup c xs r)]; exact r
      rcases hc with rfl | hc
      · exact hbe
      · rintro rfl
        rcases he with z | z
        · exact nown c b hc z
        · rw [hc] at z; cases z; exact hb rfl
end
structure Un (fs ex : List Addr) (H H' : Hp) (h h' : Heap) : Prop where
  keep : ∀ b o, h.get? b = some o → H b = none → b ∉ fs → b ∉ ex → h'.get? b = some o
  slot : ∀ b o, h.get? b = some o → H b = none → b ∈ fs → b ∉ ex → ∃ sl, h'.get? b = some { o with slots := sl }
  free : ∀ b o, h.get? b = some o → H b = none → b ∉ ex → H' b = none
  there : ∀ b o, h.get? b = some o → b ∉ ex → ∃ o', h'.get? b = some o'
  tups : ∀ b xs, H b = some (.tup xs) → H' b = some (.tup xs)
  frzs : ∀ b o u, H b = some (.frz o u) → H' b = some (.frz o u)
  tbls : ∀ b ps, H b = some (.tbl ps) → ∃ more, H' b = some (.tbl (ps ++ more))
section
variable {fs fs' ex ex' : List Addr} {H H1 H2 : Hp} {h h1 h2 h' : Heap} {a x e : Addr} {o : HO}
theorem Un.any (u : Un fs ex H H1 h h1) {b : Addr} {ob : Obj} (q : h.get? b = some ob) (n : H b = none) (hx : b ∉ ex) : ∃ sl, h1.get? b = some { ob with slots := sl } := by
  by_cases hb : b ∈ fs
  · exact u.slot b ob q n hb hx
  · exact ⟨ob.slots, u.keep b ob q n hb hx⟩
theorem Un.kept (k : ∀ b u, h.get? b = some u → h'.get? b = some u) : Un fs ex H H h h' :=
  ⟨fun b ob q _ _ _ => k b ob q, fun b ob q _ _ _ => ⟨ob.slots, k b ob q⟩, fun _ _ _ n _ => n, fun b ob q _ => ⟨ob, k b ob q⟩, fun _ _ q => q, fun _ _ _ q => q, fun _ ps q => ⟨#[], by rw [q]; simp⟩⟩
theorem Un.refl : Un fs ex H H h h := Un.kept fun _ _ q => q
theorem Un.laid (k : ∀ b u, h.get? b = some u → h'.get? b = some u) (hp : h.objs.size ≤ a) (hn : H a = none) : Un fs ex H (upd H a o) h h' where
  keep := fun b u q _ _ _ => k b u q
  slot := fun b u q _ _ _ => ⟨u.slots, k b u q⟩
  free := fun b u q n _ => by rw [aD (Nat.ne_of_lt (Nat.lt_of_lt_of_le (Heap.lt_size q) hp))]; exact n
  there := fun b u q _ => ⟨u, k b u q⟩
  tups := fun b xs q => by rw [aD (aG q hn)]; exact q
  frzs := fun b u xs q => by rw [aD (aG q hn)]; exact q
  tbls := fun b ps q => ⟨#[], by rw [aD (aG q hn), q]; simp⟩
theorem Un.write (mu : Mut (H x)) (he : e = x ∨ H e = some (.own x)) (k : ∀ b u, b ≠ e → h.get? b = some u → h'.get? b = some u) (heo : ∃ u, h'.get? e = some u) : Un fs ex H (upd H x o) h h' := by
  have hx : ∀ b, H b = none → b ≠ x := fun b n z => by subst z; rw [n] at mu; exact mu
  have hb : ∀ b, H b = none → b ≠ e := fun b n z => by
    subst z
    rcases he with r | r
    · exact hx b n r
    · rw [n] at r; cases r
  have hm : ∀ b u, H b = some u → ¬ Mut (some u) → b ≠ x := fun b u q nm z => by subst z; rw [q] at mu; exact nm mu
  refine ⟨fun b u q n _ _ => k b u (hb b n) q, fun b u q n _ _ => ⟨u.slots, k b u (hb b n) q⟩, fun b u q n _ => by rw [aD (hx b n)]; exact n, fun b u q _ => ?_,
    fun b xs q => by rw [aD (hm b _ q fun z => z)]; exact q, fun b u xs q => by rw [aD (hm b _ q fun z => z)]; exact q, fun b ps q => ⟨#[], by rw [aD (hm b _ q fun z => z), q]; simp⟩⟩
  by_cases hbe : b = e
  · subst hbe; exact heo
  · exact ⟨u, k b u hbe q⟩
end
def trk (h : Heap) (H : Hp) : List Addr := (List.range h.objs.size).filter fun a => (H a).isSome
def tq (h : Heap) (H : Hp) : Heap := PySem.W.hideAll h (trk h H)
theorem BQ (h : Heap) (H : Hp) : (tq h H).objs.size = h.objs.size := PySem.W.hideAll_size _ _
theorem Dm {h : Heap} {H : Hp} {b : Addr} {o : Obj} (e : h.get? b = some o) (n : H b = none) : (tq h H).get? b = some o :=
  PySem.W.hideAll_get _ e fun hm => by
    have q : (H b).isSome = true := (List.mem_filter.mp hm).2
    rw [n] at q; simp at q
theorem Fc {h : Heap} {H : Hp} {b : Addr} {o : Obj} (e : (tq h H).get? b = some o) : h.get? b = some o ∧ H b = none := by
  have e' : h.get? b = some o := PySem.W.of_hideAll (trk h H) e
  refine ⟨e', ?_⟩
  cases q : H b with
  | none => rfl
  | some x =>
    have hm : b ∈ trk h H := List.mem_filter.mpr ⟨List.mem_range.mpr (Heap.lt_size e'), by simp [q]⟩
    have z : (tq h H).get? b = none := PySem.W.hideAll_none (trk h H) hm
    rw [z] at e; cases e
def Fd (g h : Heap) (L : Addr) : List (Addr × Obj) := (List.range h.objs.size).filterMap fun a => if a = L ∨ (g.get? a).isSome = true then none else (h.get? a).map fun o => (a, o)
def rest (g h : Heap) (L d : Addr) : List (Addr × Obj) := (Fd g h L).filter fun p => decide (p.1 ≠ d)
end L2
namespace L2
open PySem PySem.Spec PyProof.Rows
structure Mod (K : PySem.W.Frag) (mg : Str → Option Value) (base : Heap) : Prop where
  kin : K.In base
  glob : base.Ns mainGlobals mg
  blt : ∃ mb, base.Ns builtinsNs mb ∧ ∀ x : Str, x ≠ "__name__" → mb x = bootBuiltins x
  nolimit : base.NoLimit
structure Cx where
  prog : Program
  w : World
  K : PySem.W.Frag
  mg : Str → Option Value
  base : Heap
  A : Around
  N : List Str
  s₀ : Shared
  H₀ : Hp
  env : Env
  outer : List Env
  stack : List Env
  ex : List Addr
  fn : Str → Bool
  calm : Bool
  pn : List (Addr × Obj)
  xe : Value → Shared → Prop
def frs (l : List Env) : List Addr := l.filterMap (·.frame)
abbrev Cx.fs (X : Cx) : List Addr := frs X.outer
def Vis (sc : Scope) (x : Str) : Prop := sc.names.lookup x = some .local ∨ sc.names.lookup x = some .cell ∨ sc.names.lookup x = some .free
def Loc (sc : Scope) (x : Str) : Prop := sc.names.lookup x = some .local ∨ sc.names.lookup x = some .cell
def JO (env : Env) (h : Heap) (m : Str → Option Value) (x : Str) (u : Value) : Prop :=
  (env.kindOf x = some .local ∧ m x = some u) ∨ ((env.kindOf x = some .cell ∨ env.kindOf x = some .free) ∧ ∃ c, env.cells.lookup x = some c ∧ h.IsCell c (some u))
structure Cx.Ok (X : Cx) : Prop where
  mod : Mod X.K X.mg X.base
  kind : X.env.scope.kind = .function
  glob : X.env.globals = mainGlobals
  blt : X.env.builtins = builtinsNs
  above : X.s₀.heap.objs.size ≤ X.env.locals
  inj : ∀ x y c, X.env.cells.lookup x = some c → X.env.cells.lookup y = some c → x = y
  has : ∀ x, (X.env.kindOf x = some .cell ∨ X.env.kindOf x = some .free) → ∃ c, X.env.cells.lookup x = some c
  cab : ∀ x c, X.fn x = true → X.env.cells.lookup x = some c → X.s₀.heap.objs.size ≤ c
  hd : X.calm = true → X.A.handled = none
  frames : X.A.frames = some X.stack
  stk : X.stack = X.outer ∨ (X.stack = X.env :: X.outer ∧ X.env.frame = some X.env.locals)
  exf : ∀ b ∈ X.ex, b ≠ X.env.locals ∧ ∀ x c, X.env.cells.lookup x = some c → c ≠ b
  bs : ∀ b o, X.base.get? b = some o → X.s₀.heap.get? b = some o ∧ X.H₀ b = none
  bsz : X.base.objs.size ≤ X.s₀.heap.objs.size
  noex : ∀ b o, X.base.get? b = some o → b ∉ X.ex
  exfs : ∀ b ∈ X.ex, b ∉ X.fs
  funs : X.s₀.heap.FunFrames X.base X.outer
  frf : ∀ b ∈ X.fs, X.H₀ b = none
structure Inv (X : Cx) (pins : List (Addr × Obj)) (σ : List (Option V)) (H : Hp) (s : Shared) : Prop where
  ok : X.Ok
  os : s.os = X.s₀.os
  bare : AllBare s.gens
  base : Un X.fs X.ex X.H₀ H X.s₀.heap s.heap
  loc : ∃ m, s.heap.Ns X.env.locals m ∧ ∀ (i : Nat) (x : Str) (v : V), X.N[i]? = some x → σ[i]? = some (some v) → Vis X.env.scope x → ∃ u, bK v u ∧ JO X.env s.heap m x u
  cell : ∀ x c, X.env.cells.lookup x = some c → ∃ v, s.heap.IsCell c v
  free : H X.env.locals = none
  freeC : ∀ x c, X.env.cells.lookup x = some c → H c = none
  pin : ∀ p ∈ X.pn ++ pins, s.heap.get? p.1 = some p.2 ∧ H p.1 = none ∧ p.1 ≠ X.env.locals ∧ p.1 ∉ X.fs ∧ ∀ v, p.2.data ≠ .cell v
  hok : HOk X.prog X.w H s.heap
  len : σ.length = X.N.length
section
variable {X : Cx} {pins : List (Addr × Obj)} {σ : List (Option V)} {H H' : Hp} {s : Shared} {h' : Heap}
theorem Cx.Ok.nofr (ok : X.Ok) {b : Addr} {o : Obj} (e : X.base.get? b = some o) : b ∉ X.fs := fun hb => by
  have := (ok.funs.mem hb).1
  rw [e] at this; cases this
theorem Inv.bs (I : Inv X pins σ H s) : ∀ b o, X.base.get? b = some o → s.heap.get? b = some o ∧ H b = none := fun b o e =>
  ⟨I.base.keep b o (I.ok.bs b o e).1 (I.ok.bs b o e).2 (I.ok.nofr e) (I.ok.noex b o e), I.base.free b o (I.ok.bs b o e).1 (I.ok.bs b o e).2 (I.ok.noex b o e)⟩
theorem Inv.bk (I : Inv X pins σ H s) : ∀ b o, X.base.get? b = some o → s.heap.get? b = some o := fun b o e => (I.bs b o e).1
theorem Inv.mod (I : Inv X pins σ H s) : Mod X.K X.mg X.base := I.ok.mod
theorem Inv.kIn (I : Inv X pins σ H s) : X.K.In s.heap := I.ok.mod.kin.keeps I.bk
theorem Inv.lt (I : Inv X pins σ H s) : X.env.locals < s.heap.objs.size := let ⟨_, hn, _⟩ := I.loc; hn.lt
theorem Inv.sz (I : Inv X pins σ H s) : X.s₀.heap.objs.size ≤ s.heap.objs.size := Nat.le_trans I.ok.above (Nat.le_of_lt I.lt)
theorem Inv.nofs (I : Inv X pins σ H s) {a : Addr} (h : s.heap.objs.size ≤ a) : a ∉ X.fs := fun hb => by
  obtain ⟨_, o, ho, _⟩ := I.ok.funs.mem hb
  exact absurd (Nat.lt_of_lt_of_le (Heap.lt_size ho) (Nat.le_trans I.sz h)) (Nat.lt_irrefl _)
theorem Inv.cne (I : Inv X pins σ H s) : ∀ x c, X.env.cells.lookup x = some c → c ≠ X.env.locals := fun x c e z => by
  obtain ⟨v, o, ho, hd⟩ := I.cell x c e
  obtain ⟨m, ⟨o', es, ep, ho', hd', _⟩, _⟩ := I.loc
  rw [z, ho'] at ho; cases ho; rw [hd'] at hd; cases hd
theorem Inv.funs (I : Inv X pins σ H s) : s.heap.FunFrames X.base X.outer := by
  have all : ∀ (l : List Env), (∀ b ∈ frs l, b ∈ X.fs) → X.s₀.heap.FunFrames X.base l → s.heap.FunFrames X.base l := by
    intro l
    induction l with
    | nil => intro _ _; trivial
    | cons env r ih =>
      intro hs hl
      obtain ⟨hk, ⟨L, o, hf, hn, ho, hd⟩, hr⟩ := hl
      have hL : L ∈ X.fs := hs L (by unfold frs; rw [List.filterMap_cons, hf]; exact List.mem_cons_self)
      obtain ⟨sl, e⟩ := I.base.slot L o ho (I.ok.frf L hL) hL fun z => I.ok.exfs L z hL
      exact ⟨hk, ⟨L, _, hf, hn, e, hd⟩, ih (fun b hb => hs b (by unfold frs; rw [List.filterMap_cons, hf]; exact List.mem_cons_of_mem _ hb)) hr⟩
  exact all X.outer (fun _ hb => hb) I.ok.funs
theorem Inv.stack (I : Inv X pins σ H s) : s.heap.FunFrames X.base X.stack := by
  rcases I.ok.stk with e | ⟨e, hf⟩
  · rw [e]; exact I.funs
  · rw [e]
    obtain ⟨m, hn, _⟩ := I.loc
    refine .cons (by rw [I.ok.kind]; decide) hf hn ?_ I.funs
    exact Heap.get?_none_of_le (Nat.le_trans I.ok.bsz I.ok.above)
theorem Inv.stkSub (I : Inv X pins σ H s) : ∀ b ∈ frs X.stack, b ∈ X.env.locals :: X.fs := fun b hb => by
  rcases I.ok.stk with e | ⟨e, hf⟩
  · rw [e] at hb; exact List.mem_cons_of_mem _ hb
  · rw [e] at hb
    unfold frs at hb
    rw [List.filterMap_cons, hf] at hb
    exact hb
theorem Inv.stkFree (I : Inv X pins σ H s) : ∀ b ∈ frs X.stack, H b = none := fun b hb => by
  rcases List.mem_cons.mp (I.stkSub b hb) with e | hb
  · rw [e]; exact I.free
  · obtain ⟨_, o, ho, _⟩ := I.ok.funs.mem hb
    exact I.base.free b o ho (I.ok.frf b hb) fun z => I.ok.exfs b z hb
theorem Inv.step {g' : Array GenState} {t' : Nat} {d' : Drawn} {ch : List Addr} (I : Inv X pins σ H s)
    (hch : ∀ b ∈ ch, (b ∈ X.ex ∨ X.s₀.heap.objs.size ≤ b) ∧ b ≠ X.env.locals ∧ (∀ x c, X.env.cells.lookup x = some c → c ≠ b) ∧ ∀ p ∈ X.pn ++ pins, p.1 ≠ b)
    (keep : ∀ b o, b ≠ X.env.locals → b ∉ X.fs → b ∉ ch → s.heap.get? b = some o → H b = none → h'.get? b = some o)
    (slot : ∀ b o, b ≠ X.env.locals → b ∈ X.fs → b ∉ ch → s.heap.get? b = some o → H b = none → ∃ sl, h'.get? b = some { o with slots := sl }) (free : ∀ b o, b ∉ ch → s.heap.get? b = some o → H b = none → H' b = none)
    (there : ∀ b o, b ∉ ch → s.heap.get? b = some o → ∃ o', h'.get? b = some o')
    (tups : ∀ b xs, H b = some (.tup xs) → H' b = some (.tup xs)) (frzs : ∀ b o u, H b = some (.frz o u) → H' b = some (.frz o u)) (tbls : ∀ b ps, H b = some (.tbl ps) → ∃ more, H' b = some (.tbl (ps ++ more)))
    (ns : ∀ m, s.heap.Ns X.env.locals m → h'.Ns X.env.locals m) (hok : HOk X.prog X.w H' h') (hg : AllBare g') :
    Inv X pins σ H' { s with heap := h', gens := g', drawn := d', toks := t' } := by
  have neL : ∀ b o, X.s₀.heap.get? b = some o → b ≠ X.env.locals := fun b o e => Nat.ne_of_lt (Nat.lt_of_lt_of_le (Heap.lt_size e) I.ok.above)
  have neC : ∀ b o, X.s₀.heap.get? b = some o → b ∉ X.ex → b ∉ ch := fun b o e hx hb => by
    rcases (hch b hb).1 with z | z
    · exact hx z
    · exact absurd (Nat.lt_of_lt_of_le (Heap.lt_size e) z) (Nat.lt_irrefl _)
  have cellK : ∀ x c, X.env.cells.lookup x = some c → ∀ v, s.heap.IsCell c v → h'.IsCell c v := fun x c e v ⟨o, ho, hd⟩ => by
    have nch : c ∉ ch := fun z => (hch c z).2.2.1 x c e rfl
    by_cases hc : c ∈ X.fs
    · obtain ⟨sl, q⟩ := slot c o (I.cne x c e) hc nch ho (I.freeC x c e)
      exact ⟨_, q, hd⟩
    · exact ⟨o, keep c o (I.cne x c e) hc nch ho (I.freeC x c e), hd⟩
  refine ⟨I.ok, I.os, hg, ⟨fun b o e n hb hx => ?_, fun b o e n hb hx => ?_, fun b o e n hx => ?_, fun b o e hx => ?_, fun b xs e => tups b xs (I.base.tups b xs e), fun b o xs e => frzs b o xs (I.base.frzs b o xs e), fun b ps e => ?_⟩, ?_, fun x c e => ?_, ?_, fun x c e => ?_, fun p hp => ?_, hok, I.len⟩
  · exact keep b o (neL b o e) hb (neC b o e hx) (I.base.keep b o e n hb hx) (I.base.free b o e n hx)
  · obtain ⟨sl, e1⟩ := I.base.slot b o e n hb hx
    obtain ⟨sl', e2⟩ := slot b _ (neL b o e) hb (neC b o e hx) e1 (I.base.free b o e n hx)
    exact ⟨sl', e2⟩
  · obtain ⟨o', e1⟩ := I.base.there b o e hx
    exact free b o' (neC b o e hx) e1 (I.base.free b o e n hx)
  · obtain ⟨o', e1⟩ := I.base.there b o e hx
    exact there b o' (neC b o e hx) e1
  · obtain ⟨m1, e1⟩ := I.base.tbls b ps e
    obtain ⟨m2, e2⟩ := tbls b _ e1
    exact ⟨m1 ++ m2, by rw [e2, Array.append_assoc]⟩
  · obtain ⟨m, hn, hl⟩ := I.loc
    refine ⟨m, ns m hn, fun i x v e1 e2 e3 => ?_⟩
    obtain ⟨u, r, l⟩ := hl i x v e1 e2 e3
    refine ⟨u, r, ?_⟩
    rcases l with l | ⟨k, c, e, z⟩
    · exact .inl l
    · exact .inr ⟨k, c, e, cellK x c e _ z⟩
  · obtain ⟨v, z⟩ := I.cell x c e
    exact ⟨v, cellK x c e v z⟩
  · obtain ⟨m, ⟨o, _, _, ho, _⟩, _⟩ := I.loc
    exact free _ o (fun z => (hch _ z).2.1 rfl) ho I.free
  · obtain ⟨v, o, ho, hd⟩ := I.cell x c e
    exact free c o (fun z => (hch c z).2.2.1 x c e rfl) ho (I.freeC x c e)
  · obtain ⟨e, n, ne, nf, d⟩ := I.pin p hp
    have nch : p.1 ∉ ch := fun z => (hch p.1 z).2.2.2 p hp rfl
    exact ⟨keep p.1 p.2 ne nf nch e n, free p.1 p.2 nch e n, ne, nf, d⟩
theorem Inv.un {t' : Nat} (I : Inv X pins σ H s) (u : Un X.fs [] H H' s.heap h') (hok : HOk X.prog X.w H' h') : Inv X pins σ H' { s with heap := h', toks := t' } := by
  obtain ⟨m, ⟨o, es, ep, ho, r⟩, _⟩ := id I.loc
  obtain ⟨sl, hL⟩ := u.any ho I.free (by simp)
  exact I.step (g' := s.gens) (d' := s.drawn) (ch := []) (fun _ z => nomatch z) (fun b o _ hb _ e n => u.keep b o e n hb (by simp)) (fun b o _ hb _ e n => u.slot b o e n hb (by simp)) (fun b o _ e n => u.free b o e n (by simp)) (fun b o _ e => u.there b o e (by simp)) u.tups u.frzs u.tbls (fun m' hm => by
    obtain ⟨o', es', ep', ho', r'⟩ := hm
    rw [ho] at ho'; cases ho'
    exact ⟨_, es', ep', hL, r'⟩) hok I.bare
theorem Inv.call {g' : Array GenState} {t' : Nat} {d' : Drawn} {ch : List Addr} (I : Inv X pins σ H s) (u : Un (frs X.stack) ch H H' s.heap h') (hok : HOk X.prog X.w H' h') (hg : AllBare g')
    (hch : ∀ b ∈ ch, (b ∈ X.ex ∨ X.s₀.heap.objs.size ≤ b) ∧ b ≠ X.env.locals ∧ (∀ x c, X.env.cells.lookup x = some c → c ≠ b) ∧ ∀ p ∈ X.pn ++ pins, p.1 ≠ b) :
    Inv X pins σ H' { s with heap := h', gens := g', drawn := d', toks := t' } := by
  obtain ⟨m, ⟨o, es, ep, ho, r⟩, _⟩ := id I.loc
  obtain ⟨sl, hL⟩ := u.any ho I.free fun z => (hch _ z).2.1 rfl
  exact I.step (ch := ch) hch (fun b o hL hb hc e n => u.keep b o e n (fun z => (List.mem_cons.mp (I.stkSub b z)).elim hL hb) hc) (fun b o _ _ hc e n => u.any e n hc) (fun b o hc e n => u.free b o e n hc) (fun b o hc e => u.there b o e hc) u.tups u.frzs u.tbls (fun m' hm => by
    obtain ⟨o', es', ep', ho', r'⟩ := hm
    rw [ho] at ho'; cases ho'
    exact ⟨_, es', ep', hL, r'⟩) hok hg
theorem Inv.turned {t' : Nat} {it : Addr} (I : Inv X pins σ H s) (k : ∀ b o, b ≠ it → s.heap.get? b = some o → h'.get? b = some o) (hn : H it = none) (hL : it ≠ X.env.locals)
    (h1 : it ∈ X.ex ∨ X.s₀.heap.objs.size ≤ it) (h2 : ∀ x c, X.env.cells.lookup x = some c → c ≠ it) (h3 : ∀ p ∈ X.pn ++ pins, p.1 ≠ it) : Inv X pins σ H { s with heap := h', toks := t' } := by
  have nit : ∀ b u, H b = some u → b ≠ it := fun b u e z => by rw [z, hn] at e; cases e
  refine I.step (g' := s.gens) (d' := s.drawn) (ch := [it]) (fun b hb => ?_) (fun b o _ _ hc e _ => k b o (fun z => hc (by simp [z])) e) (fun b o _ _ hc e _ => ⟨o.slots, k b o (fun z => hc (by simp [z])) e⟩) (fun _ _ _ _ n => n)
    (fun b o hc e => ⟨o, k b o (fun z => hc (by simp [z])) e⟩) (fun _ _ e => e) (fun _ _ _ e => e) (fun b ps e => ⟨#[], by rw [e]; simp⟩) (fun m hm => ?_) (fun b u e => ?_) I.bare
  · have e : b = it := by simpa using hb
    subst e
    exact ⟨h1, hL, h2, h3⟩
  · obtain ⟨o, es, ep, ho, r⟩ := hm
    exact ⟨o, es, ep, k _ o (Ne.symm hL) ho, r⟩
  · refine (I.hok b u e).stay (fun c v hc q => k c v ?_ q) (fun _ q => q) fun _ _ q => q
    rcases hc with z | z
    · rw [z]; exact nit b u e
    · exact nit c _ z
theorem Inv.tok (I : Inv X pins σ H s) (t : Nat) : Inv X pins σ H { s with toks := t } := I.un (h' := s.heap) (t' := t) Un.refl I.hok
theorem Inv.kept {t' : Nat} (I : Inv X pins σ H s) (k : ∀ b u, s.heap.get? b = some u → h'.get? b = some u) : Inv X pins σ H { s with heap := h', toks := t' } := I.un (Un.kept k) (I.hok.kept k)
theorem Inv.laid {a : Addr} {o : HO} {t' : Nat} (I : Inv X pins σ H s) (k : ∀ b u, s.heap.get? b = some u → h'.get? b = some u) (hp : s.heap.objs.size ≤ a) (new : eN X.prog X.w (upd H a o) h' a o) :
    Inv X pins σ (upd H a o) { s with heap := h', toks := t' } := I.un (Un.laid k hp (I.hok.fresh hp)) (I.hok.laid k hp new)
theorem Inv.write {x e : Addr} {o : HO} {t' : Nat} (I : Inv X pins σ H s) (mu : Mut (H x)) (he : e = x ∨ H e = some (.own x)) (k : ∀ b u, b ≠ e → s.heap.get? b = some u → h'.get? b = some u) (heo : ∃ u, h'.get? e = some u)
    (new : eN X.prog X.w (upd H x o) h' x o) : Inv X pins σ (upd H x o) { s with heap := h', toks := t' } := I.un (Un.write mu he k heo) (I.hok.write mu he k heo new)
theorem Inv.pins_of {pins' : List (Addr × Obj)} (I : Inv X pins σ H s) (h : ∀ p ∈ pins', s.heap.get? p.1 = some p.2 ∧ H p.1 = none ∧ p.1 ≠ X.env.locals ∧ p.1 ∉ X.fs ∧ ∀ v, p.2.data ≠ .cell v) : Inv X pins' σ H s :=
  ⟨I.ok, I.os, I.bare, I.base, I.loc, I.cell, I.free, I.freeC, fun p hp => (List.mem_append.mp hp).elim (fun z => I.pin p (List.mem_append_left _ z)) (h p), I.hok, I.len⟩
theorem nA {N : List Str} (hN : N.Nodup) {i j : Nat} {x : Str} (a : N[i]? = some x) (b : N[j]? = some x) : i = j := by
  obtain ⟨h1, e1⟩ := List.getElem?_eq_some_iff.mp a
  obtain ⟨h2, e2⟩ := List.getElem?_eq_some_iff.mp b
  exact (List.getElem_inj hN).mp (e1.trans e2.symm)
theorem rJ {M : Model} {A : Around} {E : Value → Shared → Prop} {i : Nat} {x : Str} {v : V} {u : Value} {Q : Unit → Shared → Prop} (I : Inv X pins σ H s) (hN : X.N.Nodup) (hi : X.N[i]? = some x) (hx : Loc X.env.scope x) (r : bK v u)
    (h : ∀ s', Inv X pins (σ.set i (some v)) H s' → (∃ a, Heap.SameBut a s.heap s'.heap ∧ (a = X.env.locals ∨ X.env.cells.lookup x = some a)) → Q () s') (hf : X.fn x = true ∨ X.env.scope.names.lookup x = some .local := by first | exact .inl rfl | exact .inr rfl | assumption) : wpAny M A (storeName X.env x u) Q E s := by
  obtain ⟨m, hn, hl⟩ := id I.loc
  have hcls : (X.env.scope.kind == .class || (X.env.scope.kind == .module && X.env.locals != X.env.globals)) = false := by rw [I.ok.kind]; rfl
  have hiσ : i < σ.length := by rw [I.len]; exact (List.getElem?_eq_some_iff.mp hi).1
  have cne := I.cne
  have tracked : ∀ {a : Addr} {h' : Heap}, (∃ o, s.heap.get? a = some o ∧ H a = none) → Heap.SameBut a s.heap h' → HOk X.prog X.w H h' := fun {a h'} ha hs b ob e => by
    obtain ⟨_, _, hfree⟩ := ha
    refine (I.hok b ob e).stay (fun c w' hc q => (hs.2 c ?_).trans q) (fun _ q => q) fun _ _ q => q
    rintro rfl
    rcases hc with rfl | hc
    · rw [hfree] at e; cases e
    · rw [hfree] at hc; cases hc
  rcases hx with hk | hk
  · refine wpAny_storeName_local hk hn (fun h' hn' hs => ?_) hcls
    obtain ⟨oL, _, _, hoL, _⟩ := id hn
    refine h _ ⟨I.ok, I.os, I.bare, ⟨fun b o e n hb hx => ?_, fun b o e n hb hx => ?_, I.base.free, fun b o e hx => ?_, I.base.tups, I.base.frzs, I.base.tbls⟩, ⟨_, hn', fun j y v' e1 e2 e3 => ?_⟩, fun y c e => ?_, I.free, I.freeC, fun p hp => ?_, tracked ⟨oL, hoL, I.free⟩ hs, by simpa using I.len⟩ ⟨_, hs, .inl rfl⟩
    · exact (hs.2 b (Nat.ne_of_lt (Nat.lt_of_lt_of_le (Heap.lt_size e) I.ok.above))).trans (I.base.keep b o e n hb hx)
    · obtain ⟨sl, e1⟩ := I.base.slot b o e n hb hx
      exact ⟨sl, (hs.2 b (Nat.ne_of_lt (Nat.lt_of_lt_of_le (Heap.lt_size e) I.ok.above))).trans e1⟩
    · obtain ⟨o', e1⟩ := I.base.there b o e hx
      exact ⟨o', (hs.2 b (Nat.ne_of_lt (Nat.lt_of_lt_of_le (Heap.lt_size e) I.ok.above))).trans e1⟩
    · by_cases hj : j = i
      · subst hj
        rw [hi] at e1; cases e1
        rw [List.getElem?_set_self hiσ] at e2
        cases e2
        exact ⟨u, r, .inl ⟨hk, by simp⟩⟩
      · rw [List.getElem?_set_ne (Ne.symm hj)] at e2
        obtain ⟨u', r', q⟩ := hl j y v' e1 e2 e3
        refine ⟨u', r', ?_⟩
        rcases q with ⟨k, e⟩ | ⟨k, c, e, z⟩
        · refine .inl ⟨k, ?_⟩
          have : y ≠ x := fun e => hj (nA hN e1 (e ▸ hi))
          simp [this, e]
        · exact .inr ⟨k, c, e, z.sameBut hs (cne y c e)⟩
    · obtain ⟨w', z⟩ := I.cell y c e
      exact ⟨w', z.sameBut hs (cne y c e)⟩
    · obtain ⟨e, n, ne, nf, d⟩ := I.pin p hp
      exact ⟨(hs.2 p.1 ne).trans e, n, ne, nf, d⟩
  · have hfn : X.fn x = true := by
      rcases hf with z | z
      · exact z
      · rw [z] at hk; cases hk
    obtain ⟨c, hc⟩ := I.ok.has x (.inl hk)
    obtain ⟨w', z⟩ := I.cell x c hc
    refine wpAny_storeName_cell I.ok.kind hk hc z (fun h' hc' hs => ?_)
    obtain ⟨oc, hoc, hocd⟩ := id z
    refine h { s with heap := h' } ⟨I.ok, I.os, I.bare, ⟨fun b o e n hb hx => ?_, fun b o e n hb hx => ?_, I.base.free, fun b o e hx => ?_, I.base.tups, I.base.frzs, I.base.tbls⟩, ⟨m, hn.sameBut hs (Ne.symm (cne x c hc)), fun j y v' e1 e2 e3 => ?_⟩, fun y c' e => ?_, I.free, I.freeC, fun p hp => ?_, tracked ⟨oc, hoc, I.freeC x c hc⟩ hs, by simpa using I.len⟩ ⟨c, hs, .inr hc⟩
    · exact (hs.2 b (Nat.ne_of_lt (Nat.lt_of_lt_of_le (Heap.lt_size e) (I.ok.cab x c hfn hc)))).trans (I.base.keep b o e n hb hx)
    · obtain ⟨sl, e1⟩ := I.base.slot b o e n hb hx
      exact ⟨sl, (hs.2 b (Nat.ne_of_lt (Nat.lt_of_lt_of_le (Heap.lt_size e) (I.ok.cab x c hfn hc)))).trans e1⟩
    · obtain ⟨o', e1⟩ := I.base.there b o e hx
      exact ⟨o', (hs.2 b (Nat.ne_of_lt (Nat.lt_of_lt_of_le (Heap.lt_size e) (I.ok.cab x c hfn hc)))).trans e1⟩
    · by_cases hj : j = i
      · subst hj
        rw [hi] at e1; cases e1
        rw [List.getElem?_set_self hiσ] at e2
        cases e2
        exact ⟨u, r, .inr ⟨.inl hk, c, hc, hc'⟩⟩
      · rw [List.getElem?_set_ne (Ne.symm hj)] at e2
        obtain ⟨u', r', q⟩ := hl j y v' e1 e2 e3
        refine ⟨u', r', ?_⟩
        rcases q with q | ⟨k, c', e, z'⟩
        · exact .inl q
        · refine .inr ⟨k, c', e, z'.sameBut hs ?_⟩
          rintro rfl
          exact hj (nA hN e1 (I.ok.inj _ _ _ e hc ▸ hi))
    · by_cases hcc : c' = c
      · subst hcc; exact ⟨_, hc'⟩
      · obtain ⟨w2, z2⟩ := I.cell y c' e
        exact ⟨w2, z2.sameBut hs hcc⟩
    · obtain ⟨e, n, ne, nf, d⟩ := I.pin p hp
      refine ⟨(hs.2 p.1 ?_).trans e, n, ne, nf, d⟩
      intro q
      rw [q, hoc] at e
      have q' : oc = p.2 := Option.some.inj e
      exact d w' (by rw [← q']; exact hocd)
theorem km {M : Model} {A : Around} {E : Value → Shared → Prop} {i : Nat} {x : Str} {v : V} {u : Value} {Q : Unit → Shared → Prop} (I : Inv X pins σ H s) (hN : X.N.Nodup) (hi : X.N[i]? = some x) (hx : Loc X.env.scope x) (r : bK v u)
    (h : ∀ s', Inv X pins (σ.set i (some v)) H s' → Q () s') (hf : X.fn x = true ∨ X.env.scope.names.lookup x = some .local := by first | exact .inl rfl | exact .inr rfl | assumption) : wpAny M A (storeName X.env x u) Q E s :=
  rJ I hN hi hx r (fun s' I' _ => h s' I') hf
theorem Inv.call' {s' : Shared} {ch : List Addr} (I : Inv X pins σ H s) (ho : s'.os = s.os) (u : Un (frs X.stack) ch H H' s.heap s'.heap) (hok : HOk X.prog X.w H' s'.heap) (hg : AllBare s'.gens)
    (hch : ∀ b ∈ ch, (b ∈ X.ex ∨ X.s₀.heap.objs.size ≤ b) ∧ b ≠ X.env.locals ∧ (∀ x c, X.env.cells.lookup x = some c → c ≠ b) ∧ ∀ p ∈ X.pn ++ pins, p.1 ≠ b) : Inv X pins σ H' s' := by
  obtain ⟨h', g', d', t', o'⟩ := s'
  have e : o' = s.os := ho
  subst e
  exact I.call (g' := g') (t' := t') (d' := d') u hok hg hch
end
abbrev XK := Value → Option Addr → Hp → Prop
abbrev St := List (Option V)
abbrev VK := V → Hp → Prop
abbrev TE := St → Hp → VK → Prop
abbrev TT := St → Hp → (Bool → Hp → Prop) → Prop
abbrev TA := St → Hp → (List V → Hp → Prop) → Prop
structure nB where
  nx : St → Hp → Prop
  rt : VK
  bk : St → Hp → Prop := fun _ _ => False
  ct : St → Hp → Prop := fun _ _ => False
abbrev TS := nB → St → Hp → Prop
def EP (X : Cx) (pins : List (Addr × Obj)) (σ : St) (Q : VK) (u : Value) (s' : Shared) : Prop := ∃ v H', Inv X pins σ H' s' ∧ bK v u ∧ Q v H'
def TP (X : Cx) (pins : List (Addr × Obj)) (σ : St) (Q : Bool → Hp → Prop) (b : Bool) (s' : Shared) : Prop := ∃ H', Inv X pins σ H' s' ∧ Q b H'
def AP (X : Cx) (pins : List (Addr × Obj)) (σ : St) (Q : List V → Hp → Prop) (us : List Value) (s' : Shared) : Prop := ∃ vs H', Inv X pins σ H' s' ∧ aP vs us ∧ Q vs H'
def SP (X : Cx) (pins : List (Addr × Obj)) (D : nB) (f : Flow) (s' : Shared) : Prop :=
  match f with
  | .next => ∃ σ' H', Inv X pins σ' H' s' ∧ D.nx σ' H'
  | .brk => ∃ σ' H', Inv X pins σ' H' s' ∧ D.bk σ' H'
  | .cont => ∃ σ' H', Inv X pins σ' H' s' ∧ D.ct σ' H'
  | .ret u => ∃ v σ' H', Inv X pins σ' H' s' ∧ bK v u ∧ D.rt v H'
def PE (X : Cx) (e : Expr) (t : TE) : Prop :=
  ∀ (pins : List (Addr × Obj)) (s : Shared) (σ : St) (H : Hp) (Q : VK), Inv X pins σ H s → t σ H Q → wpAny (model X.prog X.w) X.A (eval e X.env) (EP X pins σ Q) X.xe s
def PT (X : Cx) (e : Expr) (t : TT) : Prop :=
  ∀ (pins : List (Addr × Obj)) (s : Shared) (σ : St) (H : Hp) (Q : Bool → Hp → Prop), Inv X pins σ H s → t σ H Q → wpAny (model X.prog X.w) X.A (isTrue e X.env (eval e X.env)) (TP X pins σ Q) X.xe s
def PW (X : Cx) (e : Expr) (t : TT) : Prop :=
  ∀ (whole : Sem Value) (pins : List (Addr × Obj)) (s : Shared) (σ : St) (H : Hp) (Q : Bool → Hp → Prop), Inv X pins σ H s → t σ H Q → wpAny (model X.prog X.w) X.A (isTrue e X.env whole) (TP X pins σ Q) X.xe s
theorem PW.pt {X : Cx} {e : Expr} {t : TT} (h : PW X e t) : PT X e t := h _
def PA (X : Cx) (es : List Expr) (t : TA) : Prop :=
  ∀ (pos : Pos) (pins : List (Addr × Obj)) (s : Shared) (σ : St) (H : Hp) (Q : List V → Hp → Prop), Inv X pins σ H s → t σ H Q → wpAny (model X.prog X.w) X.A (spliced (backTo pos (starEach es X.env))) (AP X pins σ Q) X.xe s
def PS (X : Cx) (st : Stmt) (t : TS) : Prop :=
  ∀ (pins : List (Addr × Obj)) (s : Shared) (σ : St) (H : Hp) (D : nB), Inv X pins σ H s → t D σ H → wpAny (model X.prog X.w) X.A (exec st X.env) (SP X pins D) X.xe s
def PSs (X : Cx) (st : List Stmt) (t : TS) : Prop :=
  ∀ (pins : List (Addr × Obj)) (s : Shared) (σ : St) (H : Hp) (D : nB), Inv X pins σ H s → t D σ H → wpAny (model X.prog X.w) X.A (execs st X.env) (SP X pins D) X.xe s
theorem thn {α : Type} {t : Sem α} {Q Q' : α → Shared → Prop} {M : Model} {A : Around} {E : Value → Shared → Prop} {s : Shared} (h : wpAny M A t Q E s) (hQ : ∀ a s, Q a s → Q' a s) : wpAny M A t Q' E s := wpAny_mono h hQ fun _ _ x => x
end L2
namespace L2
open PySem PySem.Spec PyProof.Rows
section
variable {X : Cx}
def IS (i : Nat) : TE := fun σ H Q => ∃ v, σ[i]? = some (some v) ∧ Q v H
def tC (v : V) : TE := fun _ H Q => Q v H
theorem Dn {i : Nat} {x : Str} {pos : Pos} (hN : X.N[i]? = some x) (hv : Vis X.env.scope x) (hd : (x == ("__debug__" : Str)) = false := by decide) (hcd : (x == ("__classdict__" : Str)) = false := by decide) : PE X (.Name x pos) (IS i) := by
  intro pins s σ H Q I h
  obtain ⟨v, e, h⟩ := h
  obtain ⟨m, hn, hl⟩ := I.loc
  obtain ⟨u, r, l⟩ := hl i x v hN e hv
  have fin : EP X pins σ Q u s := ⟨v, H, I, r, h⟩
  rcases l with ⟨hk, hm⟩ | ⟨hk, c, hc, hcell⟩
  · exact wpAny_Name (wpAny_loadName_local I.ok.kind hk hn hm fin) hd
  · rcases hk with hk | hk
    · exact wpAny_Name (wpAny_loadName_cell I.ok.kind hk hc hcell fin) hd
    · exact wpAny_Name (wpAny_loadName_free I.ok.kind hk hc hcell fin hcd) hd
theorem x8 {i j pos} : PE X (.Constant (.int i) j pos) (tC (.int i)) := fun _ _ _ H _ I h => wpAny_Constant_int ⟨.int i, H, I.tok _, ⟨_, rfl⟩, h⟩
theorem IT {b j pos} : PE X (.Constant (.bool b) j pos) (tC (.bl b)) := fun _ _ _ H _ I h => Constant_bool ⟨.bl b, H, I, rfl, h⟩
theorem G7 {j pos} : PE X (.Constant .none j pos) (tC .non) := fun _ _ _ H _ I h => Constant_none ⟨.non, H, I, rfl, h⟩
theorem Do {x j pos} : PE X (.Constant (.str x) j pos) (tC (.str x)) := fun _ _ _ H _ I h => Calls.Constant_str ⟨.str x, H, I.tok _, ⟨_, rfl⟩, h⟩
def Gl (X : Cx) (x : Str) : Prop := X.env.kindOf x = some .globalImplicit
theorem tu {E : Value → Shared → Prop} {pins : List (Addr × Obj)} {s : Shared} {σ : St} {H : Hp} {x : Str} {u : Value} {pos : Pos} {Q : Value → Shared → Prop} (I : Inv X pins σ H s) (hg : Gl X x) (hm : X.mg x = some u) (h : Q u s)
    (hd : (x == ("__debug__" : Str)) = false := by decide) : wpAny (model X.prog X.w) X.A (eval (.Name x pos) X.env) Q E s :=
  Calls.Name_function_global I.ok.kind hg (Calls.loadGlobal_global (by rw [I.ok.glob]; exact I.mod.glob.keeps I.bk) hm h) hd
theorem iT {E : Value → Shared → Prop} {pins : List (Addr × Obj)} {s : Shared} {σ : St} {H : Hp} {x : Str} {u : Value} {pos : Pos} {Q : Value → Shared → Prop} (I : Inv X pins σ H s) (hg : Gl X x) (hm : X.mg x = none) (hv : bootBuiltins x = some u) (h : Q u s)
    (hn : x ≠ "__name__" := by decide) (hd : (x == ("__debug__" : Str)) = false := by decide) : wpAny (model X.prog X.w) X.A (eval (.Name x pos) X.env) Q E s := by
  obtain ⟨mb, h1, h2⟩ := I.mod.blt
  exact Calls.Name_function_global I.ok.kind hg (Calls.loadGlobal_builtin (by rw [I.ok.glob]; exact I.mod.glob.keeps I.bk) hm (by rw [I.ok.blt]; exact h1.keeps I.bk) ((h2 x hn).trans hv) h) hd
theorem tw {x : Str} {v : V} {u : Value} {pos : Pos} (hg : Gl X x) (hm : X.mg x = some u) (r : bK v u) (hd : (x == ("__debug__" : Str)) = false := by decide) : PE X (.Name x pos) (tC v) :=
  fun _ _ _ H _ I h => tu I hg hm ⟨v, H, I, r, h⟩ hd
theorem AX {x : Str} {v : V} {u : Value} {pos : Pos} (hg : Gl X x) (hm : X.mg x = none) (hv : bootBuiltins x = some u) (r : bK v u) (hn : x ≠ "__name__" := by decide) (hd : (x == ("__debug__" : Str)) = false := by decide) : PE X (.Name x pos) (tC v) :=
  fun _ _ _ H _ I h => iT I hg hm hv ⟨v, H, I, r, h⟩ hn hd
variable {a b : Expr} {ta tb : TE} {pos : Pos}
def tB (t : TE) : TT := fun σ H Q => t σ H fun x H1 => ∃ c, x = .bl c ∧ Q c H1
theorem G8 {e : Expr} {t : TE} (h : PE X e t) (he : ∀ whole, isTrue e X.env whole = (do let v ← whole; standAt e.pos; holding [v] (truthy v)) := by intro _; rfl) : PT X e (tB t) := by
  intro pins s σ H Q I hw
  refine isTrue_plain (thn (h pins s σ H _ I hw) fun v s1 ⟨x, H1, I1, r1, q1⟩ => ?_) (he _)
  obtain ⟨d, rfl, q⟩ := q1
  cases r1
  exact wpAny_truthy_bool ⟨H1, I1, q⟩
variable {tA tB' : TT} {rest : List Expr}
def jR (t u : TT) : TT := fun σ H Q => t σ H fun c H1 => if c = true then u σ H1 Q else Q false H1
def tOr (t u : TT) : TT := fun σ H Q => t σ H fun c H1 => if c = true then Q true H1 else u σ H1 Q
def gl (t : TT) : TT := fun σ H Q => t σ H fun c H1 => Q (!c) H1
theorem Fe (ha : PT X a tA) : PW X (.BoolOp .And [a] pos) tA := by
  intro wh pins s σ H Q I h
  refine isTrue_and (thn (ha pins s σ H Q I h) fun c s1 e => ?_)
  cases c with
  | true => exact isTrue_and_nil e
  | false => exact e
theorem G9 (ha : PT X a tA) : PW X (.BoolOp .Or [a] pos) tA := by
  intro wh pins s σ H Q I h
  refine isTrue_or (thn (ha pins s σ H Q I h) fun c s1 e => ?_)
  cases c with
  | false => exact isTrue_or_nil e
  | true => exact e
theorem Ha (ha : PT X a tA) (hb : PW X (.BoolOp .And (b :: rest) pos) tB') : PW X (.BoolOp .And (a :: b :: rest) pos) (jR tA tB') := by
  intro wh pins s σ H Q I h
  refine isTrue_and (thn (ha pins s σ H _ I h) fun c s1 ⟨H1, I1, q1⟩ => ?_)
  cases c with
  | true => exact hb wh pins s1 σ H1 Q I1 q1
  | false => exact ⟨H1, I1, q1⟩
theorem IU (ha : PT X a tA) (hb : PW X (.BoolOp .Or (b :: rest) pos) tB') : PW X (.BoolOp .Or (a :: b :: rest) pos) (tOr tA tB') := by
  intro wh pins s σ H Q I h
  refine isTrue_or (thn (ha pins s σ H _ I h) fun c s1 ⟨H1, I1, q1⟩ => ?_)
  cases c with
  | true => exact ⟨H1, I1, q1⟩
  | false => exact hb wh pins s1 σ H1 Q I1 q1
theorem Hb (ha : PT X a tA) : PT X (.UnaryOp .Not a pos) (gl tA) := by
  intro pins s σ H Q I h
  exact isTrue_not (ha pins s σ H (fun c H1 => Q (!c) H1) I h)
def IV (ta tb : TE) : TE := fun σ H Q => ta σ H fun x H1 => ∃ c, x = .bl c ∧ if c = true then tb σ H1 Q else Q (.bl false) H1
def IW (ta : TE) : TE := fun σ H Q => ta σ H fun x H1 => ∃ c, x = .bl c ∧ Q (.bl (!c)) H1
theorem Hc {op} {t : TE} (h : PE X a t) : PE X (.BoolOp op [a] pos) t := fun pins s σ H Q I hw => BoolOp_one (h pins s σ H Q I hw)
theorem He (ha : PE X a ta) (hb : PE X (.BoolOp .And (b :: rest) pos) tb) : PE X (.BoolOp .And (a :: b :: rest) pos) (IV ta tb) := by
  intro pins s σ H Q I h
  refine BoolOp_and (thn (ha pins s σ H _ I h) fun v s1 ⟨x, H1, I1, r1, q1⟩ => ?_)
  obtain ⟨c, rfl, q1⟩ := q1
  cases r1
  refine wpAny_truthy_bool ?_
  cases c with
  | true => exact hb pins s1 σ H1 Q I1 q1
  | false => exact ⟨.bl false, H1, I1, rfl, q1⟩
theorem Hf (ha : PE X a ta) : PE X (.UnaryOp .Not a pos) (IW ta) := by
  intro pins s σ H Q I h
  refine UnaryOp_ (thn (ha pins s σ H _ I h) fun v s1 ⟨x, H1, I1, r1, q1⟩ => ?_)
  obtain ⟨c, rfl, q1⟩ := q1
  cases r1
  exact not_of (wpAny_truthy_bool ⟨.bl (!c), H1, I1, rfl, q1⟩)
def tIf (t : TT) (ta tb : TE) : TE := fun σ H Q => t σ H fun c H1 => if c = true then ta σ H1 Q else tb σ H1 Q
theorem Dp {c : Expr} (hc : PT X c tA) (ha : PE X a ta) (hb : PE X b tb) : PE X (.IfExp c a b pos) (tIf tA ta tb) := by
  intro pins s σ H Q I h
  refine wpAny_IfExp (thn (hc pins s σ H _ I h) fun d s1 ⟨H1, I1, q1⟩ => ?_)
  cases d with
  | true => exact ha pins s1 σ H1 Q I1 q1
  | false => exact hb pins s1 σ H1 Q I1 q1
end
end L2
namespace L2
open PySem PySem.Spec PyProof.Rows
def SqL (K : PySem.W.Frag) (H : Hp) (a : Addr) (xs : List V) : Prop :=
  Rd H a (.lst xs) ∨
    ∃ (o : Obj) (its : Array Value) (n : Nat), K.lookup a = some o ∧ o.cls = .type "list" ∧ o.dict = none ∧ o.data = .seq its n ∧ its.size ≤ sizeLine ∧ aP xs its.toList
def SqT (K : PySem.W.Frag) (H : Hp) (a : Addr) (xs : List V) : Prop :=
  Rd H a (.tup xs) ∨
    ∃ (o : Obj) (its : Array Value) (n : Nat), K.lookup a = some o ∧ o.cls = .type "tuple" ∧ o.data = .seq its n ∧ its.size ≤ sizeLine ∧ aP xs its.toList
def JP : Value → Option V
  | .none => some .non
  | .bool b => some (.bl b)
  | .int i _ => some (.int i)
  | .str x _ => some (.str x)
  | .bytes b _ => some (.byt b)
  | .float b _ => some (.flt b)
  | .ref a => some (.ref a)
  | .type n => some (.ty n)
  | _ => none
theorem bK.abs {x : V} {u : Value} (r : bK x u) : JP u = some x := by
  cases x with
  | non => cases r; rfl
  | bl _ => cases r; rfl
  | int _ => obtain ⟨t, rfl⟩ := r; rfl
  | str _ => obtain ⟨t, rfl⟩ := r; rfl
  | byt _ => obtain ⟨t, rfl⟩ := r; rfl
  | flt _ => obtain ⟨t, rfl⟩ := r; rfl
  | ref _ => cases r; rfl
  | ty _ => cases r; rfl
theorem bK.inj {x y : V} {u : Value} (r : bK x u) (q : bK y u) : x = y := Option.some.inj (r.abs.symm.trans q.abs)
theorem aP.inj : ∀ {xs ys : List V} {us : List Value}, aP xs us → aP ys us → xs = ys
  | _, _, _, .nil, .nil => rfl
  | _, _, _, .cons r t, .cons r' t' => by rw [r.inj r', aP.inj t t']
section
variable {X : Cx} {pins : List (Addr × Obj)} {σ : St} {H : Hp} {s : Shared} {a : Addr} {xs ys : List V}
theorem SqL.of {K : PySem.W.Frag} (h : H a = some (.lst xs)) : SqL K H a xs := .inl (.inl h)
theorem SqT.of {K : PySem.W.Frag} (h : H a = some (.tup xs)) : SqT K H a xs := .inl (.inl h)
theorem Inv.list (I : Inv X pins σ H s) (h : SqL X.K H a xs) : ∃ its : List Value, aP xs its ∧ PlainL s.heap a its.toArray ∧ xs.length ≤ sizeLine := by
  rcases h with h | ⟨o, its, n, hk, hc, hd, hs, hz, r⟩
  · obtain ⟨z, its, n, r, e⟩ := h.ok I.hok
    exact ⟨its, r, ⟨_, n, e, rfl, rfl, rfl⟩, z⟩
  · refine ⟨its.toList, r, ⟨o, n, I.kIn a o hk, hc, hd, by simpa using hs⟩, ?_⟩
    have e := r.length
    simp only [Array.length_toList] at e
    omega
theorem Inv.tuple (I : Inv X pins σ H s) (h : SqT X.K H a xs) : ∃ its : List Value, aP xs its ∧ IsTup s.heap a its.toArray ∧ xs.length ≤ sizeLine := by
  rcases h with h | ⟨o, its, n, hk, hc, hs, hz, r⟩
  · obtain ⟨z, its, r, p⟩ := h.ok I.hok
    exact ⟨its, r, p, z⟩
  · refine ⟨its.toList, r, ⟨o, I.kIn a o hk, hc, n, by simpa using hs⟩, ?_⟩
    have e := r.length
    simp only [Array.length_toList] at e
    omega
theorem Inv.list_inj (I : Inv X pins σ H s) (h : SqL X.K H a xs) (h' : SqL X.K H a ys) : xs = ys := by
  obtain ⟨its, r, ⟨o, n, e, _, _, d⟩, _⟩ := I.list h
  obtain ⟨its', r', ⟨o', n', e', _, _, d'⟩, _⟩ := I.list h'
  rw [e] at e'; cases e'
  rw [d] at d'
  injection d' with d1 _
  have : its = its' := by simpa using congrArg Array.toList d1
  subst this
  exact r.inj r'
theorem Inv.tuple_inj (I : Inv X pins σ H s) (h : SqT X.K H a xs) (h' : SqT X.K H a ys) : xs = ys := by
  obtain ⟨its, r, ⟨o, e, _, n, d⟩, _⟩ := I.tuple h
  obtain ⟨its', r', ⟨o', e', _, n', d'⟩, _⟩ := I.tuple h'
  rw [e] at e'; cases e'
  rw [d] at d'
  injection d' with d1 _
  have : its = its' := by simpa using congrArg Array.toList d1
  subst this
  exact r.inj r'
end
abbrev Cx.wish (X : Cx) (E : Value → Shared → Prop) : Cx := { X with xe := E }
abbrev Cx.nox (X : Cx) : Cx := X.wish fun _ _ => False
theorem Cx.Ok.wish {X : Cx} (ok : X.Ok) (E : Value → Shared → Prop) : (X.wish E).Ok :=
  ⟨ok.mod, ok.kind, ok.glob, ok.blt, ok.above, ok.inj, ok.has, ok.cab, ok.hd, ok.frames, ok.stk, ok.exf, ok.bs, ok.bsz, ok.noex, ok.exfs, ok.funs, ok.frf⟩
theorem Cx.Ok.unwish {X : Cx} {E : Value → Shared → Prop} (ok : (X.wish E).Ok) : X.Ok :=
  ⟨ok.mod, ok.kind, ok.glob, ok.blt, ok.above, ok.inj, ok.has, ok.cab, ok.hd, ok.frames, ok.stk, ok.exf, ok.bs, ok.bsz, ok.noex, ok.exfs, ok.funs, ok.frf⟩
section
variable {X : Cx} {pins : List (Addr × Obj)} {σ : St} {H : Hp} {s : Shared} {E : Value → Shared → Prop}
theorem Inv.wish (I : Inv X pins σ H s) (E : Value → Shared → Prop) : Inv (X.wish E) pins σ H s := ⟨I.ok.wish E, I.os, I.bare, I.base, I.loc, I.cell, I.free, I.freeC, I.pin, I.hok, I.len⟩
theorem Inv.unwish (I : Inv (X.wish E) pins σ H s) : Inv X pins σ H s := ⟨I.ok.unwish, I.os, I.bare, I.base, I.loc, I.cell, I.free, I.freeC, I.pin, I.hok, I.len⟩
theorem SP.unwish {D : nB} {f : Flow} {s' : Shared} (h : SP (X.wish E) pins D f s') : SP X pins D f s' := by
  cases f with
  | next => obtain ⟨σ', H', I, q⟩ := h; exact ⟨σ', H', I.unwish, q⟩
  | brk => obtain ⟨σ', H', I, q⟩ := h; exact ⟨σ', H', I.unwish, q⟩
  | cont => obtain ⟨σ', H', I, q⟩ := h; exact ⟨σ', H', I.unwish, q⟩
  | ret u => obtain ⟨v, σ', H', I, r, q⟩ := h; exact ⟨v, σ', H', I.unwish, r, q⟩
theorem PSs.nox {st : List Stmt} {t : TS} (h : PSs X.nox st t) : PSs X st t := fun pins s σ H D I hw =>
  wpAny_mono (h pins s σ H D (I.wish _) hw) (fun _ _ q => q.unwish) fun _ _ z => False.elim z
end
section
variable {X : Cx} {st : Stmt} {rest : List Stmt} {t u : TS} {e : Expr} {te : TE} {pos : Pos}
def IX : TS := fun D σ H => D.nx σ H
def JQ (t u : TS) : TS := fun D σ H => t { D with nx := u D } σ H
theorem tz : PSs X [] IX := fun _ _ σ H _ I h => wpAny_execs_nil ⟨σ, H, I, h⟩
theorem vK (h1 : PS X st t) (h2 : PSs X rest u) : PSs X (st :: rest) (JQ t u) := by
  intro pins s σ H D I h
  refine wpAny_execs_cons (thn (h1 pins s σ H { D with nx := u D } I h) fun f s1 q => ?_)
  cases f with
  | next =>
    obtain ⟨σ', H', I', q⟩ := q
    exact h2 pins s1 σ' H' D I' q
  | ret v => exact q
  | brk => exact q
  | cont => exact q
theorem tD (h1 : PS X st t) : PSs X [st] t := by
  intro pins s σ H D I h
  refine wpAny_execs_cons (thn (h1 pins s σ H D I h) fun f s1 q => ?_)
  cases f with
  | next => exact wpAny_execs_nil q
  | ret v => exact q
  | brk => exact q
  | cont => exact q
theorem Inv.quiet {pins : List (Addr × Obj)} {σ : St} {H : Hp} {s : Shared} (I : Inv X pins σ H s) : interactive X.env = false := by simp [interactive, I.ok.kind]
def IY (te : TE) : TS := fun D σ H => te σ H fun _ H1 => D.nx σ H1
theorem AY (he : PE X e te) (hs : swapsWith e none pos.line X.env = pure false := by rfl) : PS X (.Expr e pos) (IY te) := by
  intro pins s σ H D I h
  exact wpAny_Expr_any (thn (he pins s σ H _ I h) fun v s1 ⟨x, H1, I1, r1, q1⟩ => ⟨σ, H1, I1, q1⟩) I.quiet hs
def JR (te : TE) : TS := fun D σ H => te σ H D.rt
theorem Hg (he : PE X e te) : PS X (.Return (some e) pos) (JR te) := by
  intro pins s σ H D I h
  exact wpAny_Return_some (thn (he pins s σ H _ I h) fun v s1 ⟨x, H1, I1, r1, q1⟩ => ⟨x, σ, H1, I1, r1, q1⟩)
def JS (c : TT) (t u : TS) : TS := fun D σ H => c σ H fun b H1 => if b = true then t D σ H1 else u D σ H1
theorem GK {c : Expr} {a b : List Stmt} {tc : TT} (hc : PT X c tc) (ha : PSs X a t) (hb : PSs X b u) : PS X (.If c a b pos) (JS tc t u) := by
  intro pins s σ H D I h
  refine wpAny_If (thn (hc pins s σ H _ I h) fun d s1 ⟨H1, I1, q1⟩ => ?_)
  cases d with
  | true => exact ha pins s1 σ H1 D I1 q1
  | false => exact hb pins s1 σ H1 D I1 q1
end
abbrev TG := V → St → Hp → (St → Hp → Prop) → Prop
abbrev TGs := List V → St → Hp → (St → Hp → Prop) → Prop
def PG (X : Cx) (target : Expr) (t : TG) : Prop :=
  ∀ (pins : List (Addr × Obj)) (s : Shared) (σ : St) (H : Hp) (v : V) (u : Value) (Q : St → Hp → Prop), Inv X pins σ H s → bK v u → t v σ H Q →
    wpAny (model X.prog X.w) X.A (assign target X.env u) (fun _ s' => ∃ σ' H', Inv X pins σ' H' s' ∧ Q σ' H') X.xe s
def PGs (X : Cx) (ts : List Expr) (t : TGs) : Prop :=
  ∀ (pins : List (Addr × Obj)) (s : Shared) (σ : St) (H : Hp) (vs : List V) (us : List Value) (Q : St → Hp → Prop), Inv X pins σ H s → aP vs us → t vs σ H Q →
    wpAny (model X.prog X.w) X.A (assignInOrder ((assignEach ts X.env).map (·.2)) us) (fun _ s' => ∃ σ' H', Inv X pins σ' H' s' ∧ Q σ' H') X.xe s
abbrev Hh := V → V → V → Hp → (Hp → Prop) → Prop
def IZ (X : Cx) (t : Hh) : Prop :=
  ∀ (pins : List (Addr × Obj)) (s : Shared) (σ : St) (H : Hp) (o i v : V) (ov iv u : Value) (Q : Hp → Prop), Inv X pins σ H s → bK o ov → bK i iv → bK v u → t o i v H Q →
    wpAny (model X.prog X.w) X.A (setItem ov iv u) (fun _ s' => ∃ H', Inv X pins σ H' s' ∧ Q H') X.xe s
abbrev TIp := V → V → Hp → VK → Prop
def PIp (X : Cx) (op : Operator) (t : TIp) : Prop :=
  ∀ (pins : List (Addr × Obj)) (s : Shared) (σ : St) (H : Hp) (x y : V) (v u : Value) (Q : VK), Inv X pins σ H s → bK x v → bK y u → t x y H Q →
    wpAny (model X.prog X.w) X.A (inplaceOp op v u) (EP X pins σ Q) X.xe s
section
variable {X : Cx} {pos : Pos}
def Dq (i : Nat) : TG := fun v σ H Q => Q (σ.set i (some v)) H
theorem Ff {i : Nat} {x : Str} (hN : X.N.Nodup) (hi : X.N[i]? = some x) (hx : Loc X.env.scope x) (hf : X.fn x = true ∨ X.env.scope.names.lookup x = some .local := by first | exact .inl rfl | exact .inr rfl | assumption) : PG X (.Name x pos) (Dq i) := by
  intro pins s σ H v u Q I r h
  exact wpAny_assign_Name (km I hN hi hx r (fun s' I' => ⟨_, H, I', h⟩) hf)
def JT : TGs := fun vs σ H Q => vs = [] ∧ Q σ H
def Ja (t : TG) (u : TGs) : TGs := fun vs σ H Q => ∃ v r, vs = v :: r ∧ t v σ H fun σ' H' => u r σ' H' Q
theorem Fg : PGs X [] JT := by
  intro pins s σ H vs us Q I r h
  obtain ⟨e, h⟩ := h
  subst e
  cases r
  exact assignInOrder_nil ⟨σ, H, I, h⟩
theorem Dr {e : Expr} {es : List Expr} {t : TG} {u : TGs} (h1 : PG X e t) (h2 : PGs X es u)
    (hs : (assignEach (e :: es) X.env).map (·.2) = assign e X.env :: (assignEach es X.env).map (·.2) := by rfl) : PGs X (e :: es) (Ja t u) := by
  intro pins s σ H vs us Q I r h
  obtain ⟨v, vr, e1, h⟩ := h
  subst e1
  cases r with
  | cons r rr =>
    rw [hs]
    refine assignInOrder_cons (thn (h1 pins s σ H _ _ _ I r h) fun _ s1 ⟨σ1, H1, I1, q1⟩ => ?_)
    exact h2 pins s1 σ1 H1 _ _ Q I1 rr q1
def JU (K : PySem.W.Frag) (n : Nat) (t : TGs) : TG := fun v σ H Q => ∃ a xs, v = .ref a ∧ SqT K H a xs ∧ xs.length = n ∧ t xs σ H Q
theorem Hi {es : List Expr} {k : Nat} {t : TGs} {n : Nat} (hc : X.calm = true) (h : PGs X es t)
    (hn : (assignEach es X.env).length = n := by rfl) (hst : (assignEach es X.env).findIdx? (·.1) = none := by rfl) : PG X (.Tuple es k pos) (JU X.K n t) := by
  intro pins s σ H v u Q I r hw
  obtain ⟨a, xs, e1, hq, hl, hw⟩ := hw
  subst e1
  cases r
  obtain ⟨its, rv, ht, hz⟩ := I.tuple hq
  refine assign_Tuple_tuple (I.ok.hd hc) ht (by simp [hn, ← hl, rv.length]) hst fun h' hx => ?_
  have I1 : Inv X pins σ H { s with heap := h' } := I.kept (t' := s.toks) fun b o e => hx b o (Nat.ne_of_lt (Heap.lt_size e)) e
  exact h pins _ σ H xs _ Q I1 (by simpa using rv) hw
def JV (to ti : TE) (t : Hh) : TG := fun v σ H Q => to σ H fun o H1 => ti σ H1 fun i H2 => t o i v H2 fun H3 => Q σ H3
theorem Hj {o i : Expr} {to ti : TE} {t : Hh} (ho : PE X o to) (hi : PE X i ti) (hs : IZ X t)
    (ha : ∀ v, assign (.Subscript o i pos) X.env v = (do
      let ov ← holding [v] (eval o X.env)
      let iv ← holding [v, ov] (eval i X.env)
      standAt pos
      holding [v, ov, iv] (setItem ov iv v)
      release [v, ov, iv] []) := by intro _; rfl) : PG X (.Subscript o i pos) (JV to ti t) := by
  intro pins s σ H v u Q I r h
  rw [ha]
  refine wpAny_bind (wpAny_holding (thn (ho pins s σ H _ I h) fun ov s1 ⟨x, H1, I1, r1, q1⟩ => ?_))
  refine wpAny_bind (wpAny_holding (thn (hi pins s1 σ H1 _ I1 q1) fun iv s2 ⟨y, H2, I2, r2, q2⟩ => ?_))
  refine wpAny_bind (wpAny_standAt (wpAny_bind (wpAny_holding (thn (hs pins s2 σ H2 x y v ov iv u _ I2 r1 r2 r q2) fun _ s3 ⟨H3, I3, q3⟩ => ?_))))
  exact wpAny_release ⟨σ, H3, I3, q3⟩
def Hk (te : TE) (g : TG) : TS := fun D σ H => te σ H fun x H1 => g x σ H1 D.nx
theorem Ds {tg e : Expr} {te : TE} {g : TG} (he : PE X e te) (hg : PG X tg g) (hs : swapsWithSole [tg] e pos.line X.env = pure false := by rfl) (hw : swappedStores [tg] e X.env = pure none := by rfl)
    (h1 : (assignEach [tg] X.env).map (·.2) = [assign tg X.env] := by rfl) : PS X (.Assign [tg] e pos) (Hk te g) := by
  intro pins s σ H D I h
  refine wpAny_Assign_stores (thn (he pins s σ H _ I h) fun v s1 ⟨x, H1, I1, r1, q1⟩ => ?_) hs hw
  rw [h1]
  exact thn (hg pins s1 σ H1 x v _ I1 r1 q1) fun _ s2 q => q
theorem x9 {i : Nat} {x : Str} {e : Expr} {te : TE} {pos' : Pos} (hN : X.N.Nodup) (hi : X.N[i]? = some x) (hx : Loc X.env.scope x) (he : PE X e te) (hs : swapsWith e (some (.Name x pos')) pos.line X.env = pure false := by rfl) (hf : X.fn x = true ∨ X.env.scope.names.lookup x = some .local := by first | exact .inl rfl | exact .inr rfl | assumption) :
    PS X (.Assign [.Name x pos'] e pos) (Hk te (Dq i)) := by
  intro pins s σ H D I h
  refine wpAny_Assign_Name (thn (he pins s σ H _ I h) fun v s1 ⟨y, H1, I1, r1, q1⟩ => ?_) hs
  exact km I1 hN hi hx r1 (fun s2 I2 => ⟨_, H1, I2, q1⟩) hf
def JW (i : Nat) (te : TE) (ti : TIp) : TS := fun D σ H => ∃ x, σ[i]? = some (some x) ∧ te σ H fun y H1 => ti x y H1 fun z H2 => D.nx (σ.set i (some z)) H2
theorem Hl {i : Nat} {x : Str} {e : Expr} {te : TE} {op : Operator} {ti : TIp} {pos' : Pos} (hN : X.N.Nodup) (hi : X.N[i]? = some x) (hx : Loc X.env.scope x) (he : PE X e te) (ho : PIp X op ti) (hf : X.fn x = true ∨ X.env.scope.names.lookup x = some .local := by first | exact .inl rfl | exact .inr rfl | assumption) :
    PS X (.AugAssign (.Name x pos') op e pos) (JW i te ti) := by
  intro pins s σ H D I h
  obtain ⟨v, e1, h⟩ := h
  obtain ⟨m, hn, hl⟩ := I.loc
  have vis : Vis X.env.scope x := by rcases hx with k | k; exact .inl k; exact .inr (.inl k)
  obtain ⟨u, r, l⟩ := hl i x v hi e1 vis
  refine wpAny_AugAssign_Name ?_
  have go : wpAny (model X.prog X.w) X.A (eval e X.env) (fun w s₂ => wpAny (model X.prog X.w) X.A (inplaceOp op u w) (fun r s₃ => wpAny (model X.prog X.w) X.A (storeName X.env x r) (fun _ => SP X pins D .next) X.xe s₃) X.xe s₂) X.xe s := by
    refine thn (he pins s σ H _ I h) fun w s1 ⟨y, H1, I1, r1, q1⟩ => ?_
    refine thn (ho pins s1 σ H1 v y u w _ I1 r r1 q1) fun z s2 ⟨zv, H2, I2, r2, q2⟩ => ?_
    exact km I2 hN hi hx r2 (fun s3 I3 => ⟨_, H2, I3, q2⟩) hf
  rcases l with ⟨hk, hm⟩ | ⟨hk, c, hc, hcell⟩
  · exact wpAny_loadName_local I.ok.kind hk hn hm go
  · rcases hk with hk | hk
    · exact wpAny_loadName_cell I.ok.kind hk hc hcell go
    · rcases hx with k | k
      · have : X.env.scope.names.lookup x = some .free := hk
        rw [k] at this; cases this
      · have : X.env.scope.names.lookup x = some .free := hk
        rw [k] at this; cases this
end
section
variable {X : Cx} {pos : Pos}
def Hm (c : TT) (tb : TS) : TS := fun D σ H => ∃ W : Nat → St → Hp → Prop, (∃ m, W m σ H) ∧ ∀ m σ H, W m σ H →
  c σ H fun b H1 => if b = true then ∃ N : St → Hp → Prop, (∀ σ' H', N σ' H' → ∃ m', m' < m ∧ W m' σ' H') ∧ tb { D with nx := N, ct := N, bk := D.nx } σ H1 else D.nx σ H1
theorem Dt {c : Expr} {body : List Stmt} {tc : TT} {tb : TS} (hp : PassesOwn (model X.prog X.w) X.A X.env X.xe) (hc : PT X c tc) (hb : PSs X body tb) : PS X (.While c body [] pos) (Hm tc tb) := by
  intro pins s σ H D I h
  obtain ⟨W, ⟨m0, w0⟩, turn⟩ := h
  refine wpAny_While (codeAny_whileLoop (fun n s' => ∃ σ' H', Inv X pins σ' H' s' ∧ W n σ' H') ?_ m0 ⟨σ, H, I, w0⟩)
  rintro n s1 ⟨σ1, H1, I1, w1⟩
  refine wpAny_passesOwn hp (thn (hc pins s1 σ1 H1 _ I1 (turn n σ1 H1 w1)) fun b s2 ⟨H2, I2, q2⟩ => ?_)
  cases b with
  | true =>
    obtain ⟨N, hN, q2⟩ := q2
    rw [if_pos rfl]
    refine wpAny_passesOwn hp (thn (hb pins s2 σ1 H2 _ I2 q2) fun f s3 q3 => ?_)
    cases f with
    | next =>
      obtain ⟨σ3, H3, I3, n3⟩ := q3
      obtain ⟨m', hm, w3⟩ := hN σ3 H3 n3
      exact ⟨m', hm, σ3, H3, I3, w3⟩
    | cont =>
      obtain ⟨σ3, H3, I3, n3⟩ := q3
      obtain ⟨m', hm, w3⟩ := hN σ3 H3 n3
      exact ⟨m', hm, σ3, H3, I3, w3⟩
    | brk => exact q3
    | ret v => exact q3
  | false =>
    rw [if_neg Bool.false_ne_true]
    exact wpAny_execs_nil ⟨σ1, H2, I2, q2⟩
end
structure It where
  go : Nat → Hp → Prop
  yld : Nat → Hp → V → Hp → Prop
  stop : Nat → Hp → Prop
def pJ (X : Cx) (pins : List (Addr × Obj)) (H : Hp) (b : Addr) : Prop :=
  H b = none ∧ b ≠ X.env.locals ∧ b ∉ X.fs ∧ (b ∈ X.ex ∨ X.s₀.heap.objs.size ≤ b) ∧ (∀ x c, X.env.cells.lookup x = some c → c ≠ b) ∧ ∀ p ∈ X.pn ++ pins, p.1 ≠ b
theorem Inv.fpOk {X : Cx} {pins : List (Addr × Obj)} {σ : St} {H H' : Hp} {s : Shared} {b : Addr} (I : Inv X pins σ H s) (hb : s.heap.objs.size ≤ b) (hn : H' b = none) : pJ X pins H' b := by
  refine ⟨hn, Nat.ne_of_gt (Nat.lt_of_lt_of_le I.lt hb), I.nofs hb, .inr (Nat.le_trans I.sz hb), fun x c e z => ?_, fun p hp z => ?_⟩
  · obtain ⟨v, q⟩ := I.cell x c e
    exact absurd (Nat.lt_of_lt_of_le q.lt (by rw [z]; exact hb)) (Nat.lt_irrefl _)
  · exact absurd (Nat.lt_of_lt_of_le (Heap.lt_size (I.pin p hp).1) (by rw [z]; exact hb)) (Nat.lt_irrefl _)
structure ya (P : Program) (w : World) (K : PySem.W.Frag) (tg : Expr) (J : It) (fp : List Addr) (it : Addr) (tn : Nat → Heap → Prop) : Prop where
  mem : it ∈ fp
  obj : ∀ i h, tn i h → ∀ b ∈ fp, ∃ o, h.get? b = some o ∧ ∀ v, o.data ≠ .cell v
  keep : ∀ i h h', tn i h → (∀ b ∈ fp, ∀ o, h.get? b = some o → h'.get? b = some o) → tn i h'
  item : ∀ (X : Cx), X.prog = P → X.w = w → X.K = K → X.calm = true → ∀ (i : Nat) (pins : List (Addr × Obj)) (s : Shared) (σ : St) (H : Hp) (E : Value → Shared → Prop), Inv X pins σ H s → (∀ b ∈ fp, pJ X pins H b) → tn i s.heap → J.go i H →
    wpAny (model P w) X.A (pyNext (.ref it)) (fun r s1 => ∃ u, r = some u ∧
      wpAny (model P w) X.A (letOwnedTupleGo tg (.ref it) u) (fun _ s2 => ∃ x H', Inv X pins σ H' s2 ∧ bK x u ∧ J.yld i H x H' ∧ tn (i + 1) s2.heap ∧ ∀ b ∈ fp, H' b = none) E s1) E s
  done : ∀ (X : Cx), X.prog = P → X.w = w → X.K = K → X.calm = true → ∀ (i : Nat) (pins : List (Addr × Obj)) (s : Shared) (σ : St) (H : Hp) (E : Value → Shared → Prop), Inv X pins σ H s → (∀ b ∈ fp, pJ X pins H b) → tn i s.heap → J.stop i H →
    wpAny (model P w) X.A (pyNext (.ref it)) (fun r s1 => r = none ∧ Inv X pins σ H s1) E s
  self : ∀ (A : Around) (i : Nat) (s : Shared) (Q : Value → Shared → Prop) (E : Value → Shared → Prop), tn i s.heap → Q (.ref it) s → wpAny (model P w) A (pyIter (.ref it)) Q E s
abbrev TI := St → Hp → (It → Hp → Prop) → Prop
def PIE (X : Cx) (pins : List (Addr × Obj)) (σ : St) (tg : Expr) (R : It → Hp → Prop) (itv : Value) (s2 : Shared) : Prop :=
  ∃ (it : Addr) (fp : List Addr) (tn : Nat → Heap → Prop) (J : It) (H' : Hp), itv = .ref it ∧ Inv X pins σ H' s2 ∧ ya X.prog X.w X.K tg J fp it tn ∧ tn 0 s2.heap ∧ (∀ b ∈ fp, pJ X pins H' b) ∧ R J H'
def PI (X : Cx) (tg iter : Expr) (wi : TI) : Prop :=
  ∀ (pins : List (Addr × Obj)) (s : Shared) (σ : St) (H : Hp) (R : It → Hp → Prop), Inv X pins σ H s → wi σ H R →
    wpAny (model X.prog X.w) X.A (eval iter X.env) (fun v s1 => wpAny (model X.prog X.w) X.A (pyIter v) (PIE X pins σ tg R) X.xe s1) X.xe s
theorem Du {M : Model} {A : Around} {E : Value → Shared → Prop} {s : Shared} {tg : Expr} {it : Addr} {u : Value} {o : Obj} {n : String} {vs : Array Value} {Q : Unit → Shared → Prop} (ho : s.heap.get? it = some o) (hc : o.cls = .type n) (hd : o.data = .fields vs)
    (hn : ["enumerate", "zip", "dict_itemiterator", "dict_reverseitemiterator", "odict_iterator", "itertools.zip_longest", "itertools.pairwise"].contains n = false) (hQ : Q () s) : wpAny M A (letOwnedTupleGo tg (.ref it) u) Q E s := by
  unfold letOwnedTupleGo
  cases tg <;> first
    | exact wpAny_pure hQ
    | (cases u <;> first
        | exact wpAny_pure hQ
        | (refine wpAny_bind (wpAny_load ho ?_)
           rw [hc, hd]
           show wpAny M A (if (["enumerate", "zip", "dict_itemiterator", "dict_reverseitemiterator", "odict_iterator", "itertools.zip_longest", "itertools.pairwise"].contains n && vs[0]? == some (rawInt _)) = true then _ else _) Q E s
           rw [if_neg (by intro h; rw [hn, Bool.false_and] at h; cases h)]
           exact wpAny_pure hQ))
def Itl (K : PySem.W.Frag) (a : Addr) : It :=
  ⟨fun i H => ∃ xs x, SqL K H a xs ∧ xs[i]? = some x, fun i H x H' => H' = H ∧ ∀ xs, SqL K H a xs → xs[i]? = some x, fun i H => ∃ xs, SqL K H a xs ∧ xs.length ≤ i⟩
def Itt (K : PySem.W.Frag) (a : Addr) : It :=
  ⟨fun i H => ∃ xs x, SqT K H a xs ∧ xs[i]? = some x, fun i H x H' => H' = H ∧ ∀ xs, SqT K H a xs → xs[i]? = some x, fun i H => ∃ xs, SqT K H a xs ∧ xs.length ≤ i⟩
def Itr (lo : Int) (n : Nat) : It := ⟨fun i _ => i < n, fun i H x H' => H' = H ∧ x = .int (lo + i), fun i _ => n ≤ i⟩
theorem BR {P : Program} {w : World} {K : PySem.W.Frag} {tg : Expr} (a it : Addr) : ya P w K tg (Itl K a) [it] it (fun i h => h.IsListIter it a i) where
  mem := by simp
  obj := fun i h st b hb => by
    have e : b = it := by simpa using hb
    subst e
    obtain ⟨o, e, c, d⟩ := st
    exact ⟨o, e, fun v z => by rw [d] at z; cases z⟩
  keep := fun i h h' st k => st.at fun o e => k it (by simp) o e
  item := by
    intro X hP hw hK hc i pins s σ H E I hf st hg
    subst hP hw hK
    obtain ⟨xs, x, hq, hx⟩ := hg
    obtain ⟨its, rv, p, hz⟩ := I.list hq
    obtain ⟨u, hu, ru⟩ := rv.get hx
    obtain ⟨f0, f1, f2, f3, f4, f5⟩ := hf it (by simp)
    refine wpAny_pyNext_list_item st p.isList (x := u) (by simpa using hu) fun h' st' sb => ?_
    have I1 : Inv X pins σ H { s with heap := h' } := I.turned (t' := s.toks) (fun b o hb e => (sb.2 b hb).trans e) f0 f1 f3 f4 f5
    obtain ⟨o, e, c, d⟩ := id st'
    exact ⟨u, rfl, Du (s := { s with heap := h' }) e c d (by decide) ⟨x, H, I1, ru, ⟨rfl, fun ys hy => by rw [I.list_inj hy hq]; exact hx⟩, st', fun b hb => (hf b hb).1⟩⟩
  done := by
    intro X hP hw hK hc i pins s σ H E I hf st hg
    subst hP hw hK
    obtain ⟨xs, hq, hx⟩ := hg
    obtain ⟨its, rv, p, hz⟩ := I.list hq
    obtain ⟨f0, f1, f2, f3, f4, f5⟩ := hf it (by simp)
    have hl := rv.length
    exact wpAny_pyNext_list_end (I.ok.hd hc) st p.isList (by simp; omega) fun h' eb => ⟨rfl, I.turned (t' := s.toks) (fun b o hb e => eb b o hb e) f0 f1 f3 f4 f5⟩
  self := fun _ _ _ _ _ st h => wpAny_pyIter_listiter st h
theorem yb {P : Program} {w : World} {K : PySem.W.Frag} {tg : Expr} (a it : Addr) : ya P w K tg (Itt K a) [it] it (fun i h => h.IsTupleIter it a i) where
  mem := by simp
  obj := fun i h st b hb => by
    have e : b = it := by simpa using hb
    subst e
    obtain ⟨o, e, c, d⟩ := st
    exact ⟨o, e, fun v z => by rw [d] at z; cases z⟩
  keep := fun i h h' st k => st.at fun o e => k it (by simp) o e
  item := by
    intro X hP hw hK hc i pins s σ H E I hf st hg
    subst hP hw hK
    obtain ⟨xs, x, hq, hx⟩ := hg
    obtain ⟨its, rv, p, hz⟩ := I.tuple hq
    obtain ⟨u, hu, ru⟩ := rv.get hx
    obtain ⟨f0, f1, f2, f3, f4, f5⟩ := hf it (by simp)
    refine wpAny_pyNext_tuple_item st (show s.heap.IsTuple a its.toArray from p) (x := u) (by simpa using hu) fun h' st' sb => ?_
    have I1 : Inv X pins σ H { s with heap := h' } := I.turned (t' := s.toks) (fun b o hb e => (sb.2 b hb).trans e) f0 f1 f3 f4 f5
    obtain ⟨o, e, c, d⟩ := id st'
    exact ⟨u, rfl, Du (s := { s with heap := h' }) e c d (by decide) ⟨x, H, I1, ru, ⟨rfl, fun ys hy => by rw [I.tuple_inj hy hq]; exact hx⟩, st', fun b hb => (hf b hb).1⟩⟩
  done := by
    intro X hP hw hK hc i pins s σ H E I hf st hg
    subst hP hw hK
    obtain ⟨xs, hq, hx⟩ := hg
    obtain ⟨its, rv, p, hz⟩ := I.tuple hq
    obtain ⟨f0, f1, f2, f3, f4, f5⟩ := hf it (by simp)
    have hl := rv.length
    exact wpAny_pyNext_tuple_end (I.ok.hd hc) st (show s.heap.IsTuple a its.toArray from p) (by simp; omega) fun h' eb => ⟨rfl, I.turned (t' := s.toks) (fun b o hb e => eb b o hb e) f0 f1 f3 f4 f5⟩
  self := fun _ _ _ _ _ st h => wpAny_pyIter_tupleiter st h
theorem yc {P : Program} {w : World} {K : PySem.W.Frag} {tg : Expr} (it : Addr) (lo : Int) (n : Nat) : ya P w K tg (Itr lo n) [it] it (fun i h => IsRangeIter h it (lo + (i : Nat) * 1) ((n : Int) - (i : Nat)) 1) where
  mem := by simp
  obj := fun i h st b hb => by
    have e : b = it := by simpa using hb
    subst e
    exact ⟨_, st, fun v z => by
      have z' : Data.fields _ = Data.cell v := z
      cases z'⟩
  keep := fun i h h' st k => k it (by simp) _ st
  item := by
    intro X hP hw hK hc i pins s σ H E I hf st hg
    subst hP hw hK
    obtain ⟨f0, f1, f2, f3, f4, f5⟩ := hf it (by simp)
    have W := Walks.range (prog := X.prog) (w := X.w) (I.ok.hd hc) it lo 1 n
    refine W.item i s _ _ hg st fun v h' tk hv st' kk => ?_
    obtain ⟨t, rfl⟩ := hv
    have I1 : Inv X pins σ H { s with heap := h', toks := tk } := I.turned (fun b o hb e => kk b o (by simpa using hb) e) f0 f1 f3 f4 f5
    refine ⟨_, rfl, Du (s := { s with heap := h', toks := tk }) (n := "range_iterator") st' rfl rfl (by decide) ⟨.int (lo + i), H, I1, ⟨t, ?_⟩, ⟨rfl, rfl⟩, st', fun b hb => (hf b hb).1⟩⟩
    rw [Int.mul_one]
  done := by
    intro X hP hw hK hc i pins s σ H E I hf st hg
    subst hP hw hK
    obtain ⟨f0, f1, f2, f3, f4, f5⟩ := hf it (by simp)
    exact wpAny_pyNext_range_end (I.ok.hd hc) st (by have : n ≤ i := hg; omega) fun h' eb => ⟨rfl, I.turned (t' := s.toks) (fun b o hb e => eb b o hb e) f0 f1 f3 f4 f5⟩
  self := fun _ _ _ _ _ st h => wpAny_pyIter_rangeiter st h
end L2
namespace L2
open PySem PySem.Spec PyProof.Rows
section
variable {X : Cx} {tg : Expr}
theorem Dv {pins : List (Addr × Obj)} {σ : St} {H : Hp} {s : Shared} {R : It → Hp → Prop} {E : Value → Shared → Prop} {lo hi : Int} {t u v : Tok} {tk : Nat} (I : Inv X pins σ H s) (h1 : -(2 ^ 62) ≤ lo) (h2 : lo < 2 ^ 62) (h3 : -(2 ^ 62) ≤ hi) (h4 : hi < 2 ^ 62)
    (q : R (Itr lo (hi - lo).toNat) H) : wpAny (model X.prog X.w) X.A (pyIter (.ref s.heap.objs.size)) (PIE X pins σ tg R) E { s with heap := s.heap.push { cls := .type "range", data := .fields #[.int lo t, .int hi u, .int 1 v] }, toks := tk } := by
  refine wpAny_pyIter_range (IsRange.new ..) (small_one h1 h2 h3 h4) ?_
  have I1 : Inv X pins σ H { s with heap := s.heap.push { cls := .type "range", data := .fields #[.int lo t, .int hi u, .int 1 v] }, toks := tk } := I.kept fun b o e => Heap.get?_push_of_some _ e
  refine ⟨(s.heap.push { cls := .type "range", data := .fields #[.int lo t, .int hi u, .int 1 v] }).objs.size, [(s.heap.push { cls := .type "range", data := .fields #[.int lo t, .int hi u, .int 1 v] }).objs.size], _, _, H, rfl,
    I1.kept (t' := tk) fun b o e => Heap.get?_push_of_some _ e, yc _ lo (hi - lo).toNat, ?_, fun b hb => ?_, q⟩
  · have e1 : lo + ((0 : Nat) : Int) * 1 = lo := by simp
    have e2 : (((hi - lo).toNat : Nat) : Int) - ((0 : Nat) : Int) = Builtin.Range.rangeSize lo hi 1 := by rw [rangeSize_one]; split <;> omega
    show IsRangeIter _ _ (lo + ((0 : Nat) : Int) * 1) ((((hi - lo).toNat : Nat) : Int) - ((0 : Nat) : Int)) 1
    rw [e1, e2]
    exact Heap.get?_push_size _ rfl
  · have e : b = (s.heap.push { cls := .type "range", data := .fields #[.int lo t, .int hi u, .int 1 v] }).objs.size := by simpa using hb
    subst e
    exact I1.fpOk (Nat.le_refl _) (I1.hok.fresh (Nat.le_refl _))
def Jb (ta : TA) : TI := fun σ H R => ta σ H fun vs H1 => ∃ j : Int, vs = [.int j] ∧ -(2 ^ 62) ≤ j ∧ j < 2 ^ 62 ∧ R (Itr 0 j.toNat) H1
theorem BS {a : Expr} {ta : TA} {p pos : Pos} (hg : Gl X "range") (hm : X.mg "range" = none) (ha : PA X [a] ta) (hs : starEach [a] X.env = [(false, eval a X.env)] := by rfl) : PI X tg (.Call (.Name "range" p) [a] [] pos) (Jb ta) := by
  intro pins s σ H R I h
  refine Call_ (iT I hg hm boot_range (PyProof.Rows.callWith_type1 (thn (ha pos pins s σ H _ I h) fun us s1 ⟨vs, H1, I1, r1, q1⟩ => ?_) hs rfl))
  obtain ⟨j, e, q1, q2, q⟩ := q1
  subst e
  cases r1 with
  | cons r rr =>
    cases rr
    obtain ⟨t, rfl⟩ := r
    exact call_range_1 (Dv I1 (by omega) (by omega) q1 q2 (by simpa using q))
def JX (wi : TI) (g : TG) (tb : TS) : TS := fun D σ H => wi σ H fun J H1 => ∃ W : Nat → Nat → St → Hp → Prop, (∃ m, W 0 m σ H1) ∧ ∀ i m σ H, W i m σ H →
  (J.stop i H ∧ D.nx σ H) ∨ (J.go i H ∧ ∃ N : St → Hp → Prop, (∀ σ' H', N σ' H' → ∃ m', m' < m ∧ W (i + 1) m' σ' H') ∧ ∀ x H', J.yld i H x H' → g x σ H' fun σ2 H2 => tb { D with nx := N, ct := N, bk := D.nx } σ2 H2)
def nC (fp : List Addr) (h : Heap) : List (Addr × Obj) := fp.filterMap fun b => (h.get? b).map fun o => (b, o)
theorem ib {fp : List Addr} {h : Heap} {b : Addr} {o : Obj} (hb : b ∈ fp) (e : h.get? b = some o) : (b, o) ∈ nC fp h := List.mem_filterMap.mpr ⟨b, hb, by rw [e]; rfl⟩
theorem BT {fp : List Addr} {h : Heap} {p : Addr × Obj} (hp : p ∈ nC fp h) : p.1 ∈ fp ∧ h.get? p.1 = some p.2 := by
  obtain ⟨b, hb, e⟩ := List.mem_filterMap.mp hp
  cases q : h.get? b with
  | none => rw [q] at e; cases e
  | some o =>
    rw [q] at e
    have e' : (b, o) = p := Option.some.inj e
    subst e'
    exact ⟨hb, q⟩
theorem Inv.pinned {pins : List (Addr × Obj)} {σ : St} {H : Hp} {s : Shared} {fp : List Addr} (I : Inv X pins σ H s) (hf : ∀ b ∈ fp, pJ X pins H b) (ho : ∀ b ∈ fp, ∃ o, s.heap.get? b = some o ∧ ∀ v, o.data ≠ .cell v) : Inv X (pins ++ nC fp s.heap) σ H s :=
  I.pins_of fun p hp => (List.mem_append.mp hp).elim (fun z => I.pin p (List.mem_append_right _ z)) fun z => by
    obtain ⟨hb, e⟩ := BT z
    obtain ⟨f0, f1, f2, _⟩ := hf p.1 hb
    obtain ⟨o, e', d⟩ := ho p.1 hb
    rw [e] at e'; cases e'
    exact ⟨e, f0, f1, f2, d⟩
theorem Inv.unpinned {pins pl : List (Addr × Obj)} {σ : St} {H : Hp} {s : Shared} (I : Inv X (pins ++ pl) σ H s) : Inv X pins σ H s := I.pins_of fun p hp => I.pin p (List.mem_append_right _ (List.mem_append_left _ hp))
theorem yd {iter : Expr} {body : List Stmt} {wi : TI} {g : TG} {tb : TS} {pos : Pos} (hp : PassesOwn (model X.prog X.w) X.A X.env X.xe) (hc : X.calm = true) (hi : PI X tg iter wi) (hg : PG X tg g) (hb : PSs X body tb)
    (hs : ∀ x, foldedSetIterable iter X.env x = pure x := by intro _; rfl) : PS X (.For tg iter body [] pos) (JX wi g tb) := by
  intro pins s σ H D I h
  refine wpAny_For (thn (hi pins s σ H _ I h) fun v s1 h1 => thn h1 fun itv s2 h2 => ?_) hs
  obtain ⟨it, fp, tn, J, H2, e, I2, T, st2, f2, W, ⟨m0, w0⟩, turn⟩ := h2
  subst e
  have stat : ∀ {H' : Hp}, (∀ b ∈ fp, H' b = none) → ∀ b ∈ fp, pJ X pins H' b := fun hn b hb => ⟨hn b hb, (f2 b hb).2⟩
  refine codeAny_forLoop_any (fun n s' => ∃ i σ' H', Inv X pins σ' H' s' ∧ tn i s'.heap ∧ (∀ b ∈ fp, H' b = none) ∧ W i n σ' H') ?_ m0 ⟨0, σ, H2, I2, st2, fun b hb => (f2 b hb).1, w0⟩
  rintro n s3 ⟨i, σ3, H3, I3, st3, fr3, w3⟩
  rcases turn i n σ3 H3 w3 with ⟨stop, qn⟩ | ⟨go, N, hN, step⟩
  · refine wpAny_passesOwn hp (thn (T.done X rfl rfl rfl hc i pins s3 σ3 H3 X.xe I3 (stat fr3) st3 stop) fun r s4 ⟨hr, I4⟩ => ?_)
    subst hr
    exact wpAny_execs_nil ⟨σ3, H3, I4, qn⟩
  · refine wpAny_passesOwn hp (thn (T.item X rfl rfl rfl hc i pins s3 σ3 H3 X.xe I3 (stat fr3) st3 go) fun r s4 ⟨u, hr, h4⟩ => ?_)
    subst hr
    refine wpAny_passesOwn hp (thn h4 fun _ s5 ⟨x, H5, I5, r5, y5, st5, fr5⟩ => ?_)
    have I5' := I5.pinned (stat fr5) (T.obj _ _ st5)
    refine wpAny_passesOwn hp (thn (hg _ s5 σ3 H5 x u _ I5' r5 (step x H5 y5)) fun _ s6 ⟨σ6, H6, I6, q6⟩ => ?_)
    refine wpAny_passesOwn hp (thn (hb _ s6 σ6 H6 _ I6 q6) fun f s7 q7 => ?_)
    have again : ∀ {σ7 : St} {H7 : Hp}, Inv X (pins ++ nC fp s5.heap) σ7 H7 s7 → N σ7 H7 → ∃ m, m < n ∧ ∃ i σ' H', Inv X pins σ' H' s7 ∧ tn i s7.heap ∧ (∀ b ∈ fp, H' b = none) ∧ W i m σ' H' := fun {σ7 H7} I7 n7 => by
      obtain ⟨m', hm, w7⟩ := hN σ7 H7 n7
      refine ⟨m', hm, i + 1, σ7, H7, I7.unpinned, T.keep _ _ _ st5 fun b hb o e => (I7.pin (b, o) (List.mem_append_right _ (List.mem_append_right _ (ib hb e)))).1, fun b hb => ?_, w7⟩
      obtain ⟨o, e, d⟩ := T.obj _ _ st5 b hb
      exact (I7.pin (b, o) (List.mem_append_right _ (List.mem_append_right _ (ib hb e)))).2.1
    cases f with
    | next => obtain ⟨σ7, H7, I7, n7⟩ := q7; exact again I7 n7
    | cont => obtain ⟨σ7, H7, I7, n7⟩ := q7; exact again I7 n7
    | brk => obtain ⟨σ7, H7, I7, q7⟩ := q7; exact ⟨σ7, H7, I7.unpinned, q7⟩
    | ret v => obtain ⟨x7, σ7, H7, I7, r7, q7⟩ := q7; exact ⟨x7, σ7, H7, I7.unpinned, r7, q7⟩
end
end L2
namespace L2
open PySem PySem.Spec PyProof.Rows
abbrev R2 := V → V → Hp → VK → Prop
def OpR (X : Cx) (f : Value → Value → Sem Value) (r : R2) : Prop :=
  ∀ (pins : List (Addr × Obj)) (s : Shared) (σ : St) (H : Hp) (x y : V) (v u : Value) (Q : VK), Inv X pins σ H s → bK x v → bK y u → r x y H Q →
    wpAny (model X.prog X.w) X.A (f v u) (EP X pins σ Q) X.xe s
def UnR (X : Cx) (f : Value → Sem Value) (r : V → Hp → VK → Prop) : Prop :=
  ∀ (pins : List (Addr × Obj)) (s : Shared) (σ : St) (H : Hp) (x : V) (v : Value) (Q : VK), Inv X pins σ H s → bK x v → r x H Q →
    wpAny (model X.prog X.w) X.A (f v) (EP X pins σ Q) X.xe s
def gp (X : Cx) (f : Value) (r : List V → Hp → VK → Prop) : Prop :=
  ∀ (pins : List (Addr × Obj)) (s : Shared) (σ : St) (H : Hp) (xs : List V) (us : List Value) (Q : VK), Inv X pins σ H s → aP xs us → r xs H Q →
    wpAny (model X.prog X.w) X.A (call f us) (EP X pins σ Q) X.xe s
def tOp (r : R2) (ta tb : TE) : TE := fun σ H Q => ta σ H fun x H1 => tb σ H1 fun y H2 => r x y H2 Q
def tUn (r : V → Hp → VK → Prop) (ta : TE) : TE := fun σ H Q => ta σ H fun x H1 => r x H1 Q
def rI (C : Int → Int → Prop) (g : Int → Int → V) : R2 := fun x y H Q => ∃ i j, x = .int i ∧ y = .int j ∧ C i j ∧ Q (g i j) H
def rI0 (g : Int → Int → V) : R2 := fun x y H Q => ∃ i j, x = .int i ∧ y = .int j ∧ Q (g i j) H
def rU (g : Int → V) : V → Hp → VK → Prop := fun x H Q => ∃ i, x = .int i ∧ Q (g i) H
section
variable {X : Cx} {a b c : Expr} {ta tb tc : TE} {pos : Pos}
theorem Hn (ha : PE X a ta) (hb : PE X b tb) {pins : List (Addr × Obj)} {s : Shared} {σ : St} {H : Hp} {R : V → V → Hp → Prop} (I : Inv X pins σ H s)
    (h : ta σ H fun x H1 => tb σ H1 fun y H2 => R x y H2) {Q : Value → Shared → Prop} {f : Value → Value → Sem Value}
    (hf : ∀ v u s2 x y H2, Inv X pins σ H2 s2 → bK x v → bK y u → R x y H2 → wpAny (model X.prog X.w) X.A (f v u) Q X.xe s2) :
    wpAny (model X.prog X.w) X.A (eval a X.env) (fun v s₁ => wpAny (model X.prog X.w) X.A (eval b X.env) (fun u s₂ => wpAny (model X.prog X.w) X.A (f v u) Q X.xe s₂) X.xe s₁) X.xe s := by
  refine thn (ha pins s σ H _ I h) fun v s1 ⟨x, H1, I1, r1, q1⟩ => ?_
  refine thn (hb pins s1 σ H1 _ I1 q1) fun u s2 ⟨y, H2, I2, r2, q2⟩ => ?_
  exact hf v u s2 x y H2 I2 r1 r2 q2
theorem GL {op : Operator} {r : R2} (ho : OpR X (binaryOp op) r) (ha : PE X a ta) (hb : PE X b tb) : PE X (.BinOp a op b pos) (tOp r ta tb) := by
  intro pins s σ H Q I h
  exact wpAny_BinOp (Hn ha hb I h fun v u s2 x y H2 I2 rx ry q => ho pins s2 σ H2 x y v u Q I2 rx ry q)
theorem GM {op : UnaryOp} {r : V → Hp → VK → Prop} (ho : UnR X (unaryOp op) r) (ha : PE X a ta) : PE X (.UnaryOp op a pos) (tUn r ta) := by
  intro pins s σ H Q I h
  exact UnaryOp_ (thn (ha pins s σ H _ I h) fun v s1 ⟨x, H1, I1, r1, q1⟩ => ho pins s1 σ H1 x v Q I1 r1 q1)
theorem opI {f : Value → Value → Sem Value} {C : Int → Int → Prop} {g : Int → Int → Int}
    (rule : ∀ (i j : Int) (t u : Tok) (s : Shared) (Q : Value → Shared → Prop) (E : Value → Shared → Prop), C i j → Q (.int (g i j) s.toks) { s with toks := s.toks + 1 } → wpAny (model X.prog X.w) X.A (f (.int i t) (.int j u)) Q E s) :
    OpR X f (rI C fun i j => .int (g i j)) := by
  intro pins s σ H x y v u Q I rx ry h
  obtain ⟨i, j, rfl, rfl, hc, q⟩ := h
  obtain ⟨t, rfl⟩ := rx
  obtain ⟨t', rfl⟩ := ry
  exact rule i j t t' s _ _ hc ⟨.int (g i j), H, I.tok _, ⟨_, rfl⟩, q⟩
theorem Fh {f : Value → Value → Sem Value} {g : Int → Int → Int}
    (rule : ∀ (i j : Int) (t u : Tok) (s : Shared) (Q : Value → Shared → Prop) (E : Value → Shared → Prop), Q (.int (g i j) s.toks) { s with toks := s.toks + 1 } → wpAny (model X.prog X.w) X.A (f (.int i t) (.int j u)) Q E s) :
    OpR X f (rI0 fun i j => .int (g i j)) := by
  intro pins s σ H x y v u Q I rx ry h
  obtain ⟨i, j, rfl, rfl, q⟩ := h
  obtain ⟨t, rfl⟩ := rx
  obtain ⟨t', rfl⟩ := ry
  exact rule i j t t' s _ _ ⟨.int (g i j), H, I.tok _, ⟨_, rfl⟩, q⟩
theorem Ho {f : Value → Value → Sem Value} {g : Int → Int → Bool}
    (rule : ∀ (i j : Int) (t u : Tok) (s : Shared) (Q : Value → Shared → Prop) (E : Value → Shared → Prop), Q (.bool (g i j)) s → wpAny (model X.prog X.w) X.A (f (.int i t) (.int j u)) Q E s) :
    OpR X f (rI0 fun i j => .bl (g i j)) := by
  intro pins s σ H x y v u Q I rx ry h
  obtain ⟨i, j, rfl, rfl, q⟩ := h
  obtain ⟨t, rfl⟩ := rx
  obtain ⟨t', rfl⟩ := ry
  exact rule i j t t' s _ _ ⟨.bl (g i j), H, I, rfl, q⟩
def Fi (i j : Int) : Prop := 0 ≤ j ∧ j ≤ 1000000 ∧ i.natAbs < 2 ^ 64
def Fk (i j : Int) : Prop := (-(2 ^ 64) < i ∧ i < 2 ^ 64) ∨ (-(2 ^ 64) < j ∧ j < 2 ^ 64)
theorem Fk.ok {i j : Int} (h : Fk i j) : IntMulOk i j := by
  rcases h with ⟨h1, h2⟩ | ⟨h1, h2⟩
  · exact .of_left (intBits_le_64 h1 h2)
  · exact .of_right (intBits_le_64 h1 h2)
theorem ye (k : Nat) : (0 : Int) ≤ 2 ^ k := by
  rw [two_pow_cast]
  exact Int.natCast_nonneg _
theorem Hq : OpR X (binaryOp .Add) (rI0 fun i j => .int (i + j)) := Fh fun _ _ _ _ _ _ _ q => add_int q
theorem li : OpR X (binaryOp .Sub) (rI0 fun i j => .int (i - j)) := Fh fun _ _ _ _ _ _ _ q => sub_int q
theorem dB : OpR X (binaryOp .Mult) (rI Fk fun i j => .int (i * j)) := opI fun _ _ _ _ _ _ _ hc q => mul_int q hc.ok
theorem fQ : OpR X (binaryOp .Mod) (rI (fun _ j => 0 < j) fun i j => .int (i % j)) := opI fun i j _ _ _ _ _ hc q => by
  have h1 : (0 : Int) < j := hc
  exact mod_int' (by omega) (by rw [Int.fmod_eq_emod_of_nonneg i (by omega)]; exact q)
theorem yf : OpR X (binaryOp .Pow) (rI Fi fun i j => .int (i ^ j.toNat)) := opI fun _ _ _ _ _ _ _ hc q => pow_int_small hc.1 hc.2.1 hc.2.2 q
theorem Hr : OpR X (binaryOp .LShift) (rI Fi fun i j => .int (i * 2 ^ j.toNat)) := opI fun _ _ _ _ _ _ _ hc q => lshift_int_small hc.1 hc.2.1 hc.2.2 q
theorem Hs : OpR X (binaryOp .RShift) (rI (fun _ j => 0 ≤ j) fun i j => .int (i / 2 ^ j.toNat)) := opI fun i j _ _ _ _ _ hc q =>
  rshift_int hc (by rw [Int.fdiv_eq_ediv_of_nonneg i (ye _)]; exact q)
theorem Ht : OpR X (binaryOp .BitAnd) (rI0 fun i j => .int (Builtin.bitAnd i j)) := Fh fun _ _ _ _ _ _ _ q => and_int q
theorem Fl : OpR X (inplaceOp .Add) (rI0 fun i j => .int (i + j)) := Fh fun _ _ _ _ _ _ _ q => iadd_int q
theorem unI {f : Value → Sem Value} {g : Int → Int}
    (rule : ∀ (i : Int) (t : Tok) (s : Shared) (Q : Value → Shared → Prop) (E : Value → Shared → Prop), Q (.int (g i) s.toks) { s with toks := s.toks + 1 } → wpAny (model X.prog X.w) X.A (f (.int i t)) Q E s) :
    UnR X f (rU fun i => .int (g i)) := by
  intro pins s σ H x v Q I rx h
  obtain ⟨i, rfl, q⟩ := h
  obtain ⟨t, rfl⟩ := rx
  exact rule i t s _ _ ⟨.int (g i), H, I.tok _, ⟨_, rfl⟩, q⟩
theorem Dw : UnR X (unaryOp .USub) (rU fun i => .int (-i)) := unI fun _ _ _ _ _ q => neg_int q
end
section
variable {X : Cx} {a b c : Expr} {ta tb tc : TE} {pos : Pos}
theorem Dx {pins : List (Addr × Obj)} {σ : St} {H : Hp} {s : Shared} {Q : VK} {k k' : Bool} (I : Inv X pins σ H s) (q : Q (.bl k) H) (e : k = k') : EP X pins σ Q (.bool k') s := by
  subst e
  exact ⟨.bl k, H, I, rfl, q⟩
theorem AZ : OpR X (compareOp .Lt) (rI0 fun i j => .bl (decide (i < j))) := Ho fun _ _ _ _ _ _ _ q => lt_int q
theorem GN : OpR X (compareOp .LtE) (rI0 fun i j => .bl (decide (i ≤ j))) := Ho fun _ _ _ _ _ _ _ q => le_int q
theorem rK : OpR X (compareOp .Gt) (rI0 fun i j => .bl (decide (j < i))) := Ho fun _ _ _ _ _ _ _ q => gt_int q
theorem nD : OpR X (compareOp .Is) (fun x y H Q => y = .non ∧ Q (.bl (decide (x = .non))) H) := by
  intro pins s σ H x y v u Q I rx ry h
  obtain ⟨rfl, q⟩ := h
  cases ry
  refine is_none_gen (Dx I q ?_)
  cases x <;> first
    | (cases rx; rfl)
    | (obtain ⟨t, rfl⟩ := rx; rfl)
theorem tF : OpR X (compareOp .IsNot) (fun x y H Q => y = .non ∧ Q (.bl (!decide (x = .non))) H) := by
  intro pins s σ H x y v u Q I rx ry h
  obtain ⟨rfl, q⟩ := h
  cases ry
  refine isnot_none_gen (Dx I q ?_)
  cases x <;> first
    | (cases rx; rfl)
    | (obtain ⟨t, rfl⟩ := rx; rfl)
theorem OpR.or {f : Value → Value → Sem Value} {r r' : R2} (h : OpR X f r) (h' : OpR X f r') : OpR X f (fun x y H Q => r x y H Q ∨ r' x y H Q) := by
  intro pins s σ H x y v u Q I rx ry q
  rcases q with q | q
  · exact h pins s σ H x y v u Q I rx ry q
  · exact h' pins s σ H x y v u Q I rx ry q
theorem a4 (b : Expr) {op : CmpOp} (h : op ≠ .In := by decide) (h2 : op ≠ .NotIn := by decide) : behindInMarks op b = false := by
  have e1 : (op == CmpOp.In) = false := by cases op <;> first | rfl | exact absurd rfl h
  have e2 : (op == CmpOp.NotIn) = false := by cases op <;> first | rfl | exact absurd rfl h2
  cases b <;> simp [behindInMarks, e1, e2]
theorem Fo {op : CmpOp} {r : R2} (ho : OpR X (compareOp op) r) (ha : PE X a ta) (hb : PE X b tb) (hm : behindInMarks op b = false) : PE X (.Compare a [op] [b] pos) (tOp r ta tb) := by
  intro pins s σ H Q I h
  exact wpAny_Compare1 (Hn ha hb I h fun v u s2 x y H2 I2 rx ry q => ho pins s2 σ H2 x y v u Q I2 rx ry q) hm
def Jc (t : TE) : TT := fun σ H Q => t σ H fun x H' => ∃ k, x = .bl k ∧ Q k H'
theorem Fq {op : CmpOp} {r : R2} (ho : OpR X (compareOp op) r) (ha : PE X a ta) (hb : PE X b tb) (hm : behindInMarks op b = false) : PT X (.Compare a [op] [b] pos) (Jc (tOp r ta tb)) := by
  intro pins s σ H Q I h
  refine wpAny_isTrue_Compare1 (thn (ha pins s σ H _ I h) fun v s1 ⟨x, H1, I1, r1, q1⟩ => thn (hb pins s1 σ H1 _ I1 q1) fun u s2 ⟨y, H2, I2, r2, q2⟩ =>
    thn (ho pins s2 σ H2 x y v u _ I2 r1 r2 q2) fun c s3 ⟨z, H3, I3, r3, k, e, q3⟩ => ?_) hm
  subst e
  cases r3
  exact wpAny_truthy_bool ⟨H3, I3, q3⟩
def Dy (r r' : R2) (ta tb tc : TE) : TE := fun σ H Q => ta σ H fun x H1 => tb σ H1 fun y H2 => r x y H2 fun z H3 => ∃ k, z = .bl k ∧
  (if k = true then tc σ H3 fun w' H4 => r' y w' H4 Q else Q (.bl false) H3)
theorem Dz {op op' : CmpOp} {r r' : R2} (ho : OpR X (compareOp op) r) (ho' : OpR X (compareOp op') r') (ha : PE X a ta) (hb : PE X b tb) (hc : PE X c tc)
    (hm : lastMarks [op, op'] [b, c] = false := by with_unfolding_all rfl) : PE X (.Compare a [op, op'] [b, c] pos) (Dy r r' ta tb tc) := by
  intro pins s σ H Q I h
  refine Compare_chain (thn (ha pins s σ H _ I h) fun v s1 ⟨x, H1, I1, r1, q1⟩ => chain_link (thn (hb pins s1 σ H1 _ I1 q1) fun u s2 ⟨y, H2, I2, r2, q2⟩ =>
    thn (ho pins s2 σ H2 x y v u _ I2 r1 r2 q2) fun d s3 ⟨z, H3, I3, r3, k, e, q3⟩ => ?_)) hm
  subst e
  cases r3
  refine wpAny_truthy_bool ?_
  cases k with
  | false => exact ite_ff ⟨.bl false, H3, I3, rfl, q3⟩
  | true => exact ite_tt (chain_last (thn (hc pins s3 σ H3 _ I3 q3) fun w' s4 ⟨z', H4, I4, r4, q4⟩ => ho' pins s4 σ H4 y z' u w' Q I4 r2 r4 q4))
theorem nE : (sizeLine : Nat) < 2 ^ 63 := by rw [sizeLine_eq]; decide
theorem vL {x : V} {us : List Value} (r : aP [x] us) : ∃ u, us = [u] ∧ bK x u := by
  cases r with
  | cons r1 r2 => cases r2; exact ⟨_, rfl, r1⟩
theorem BU : gp X (.type "int") (fun xs H Q => (∃ i, xs = [.int i] ∧ Q (.int i) H) ∨ ∃ k, xs = [.bl k] ∧ Q (.int (if k then 1 else 0)) H) := by
  intro pins s σ H xs us Q I r h
  rcases h with ⟨i, rfl, q⟩ | ⟨k, rfl, q⟩
  · obtain ⟨u, rfl, t, rfl⟩ := vL r
    exact call_int_int ⟨.int i, H, I, ⟨_, rfl⟩, q⟩
  · obtain ⟨u, rfl, r1⟩ := vL r
    cases r1
    exact call_int_bool ⟨.int (if k then 1 else 0), H, I.tok _, ⟨_, rfl⟩, q⟩
end
end L2
namespace L2
open PySem PySem.Spec PyProof.Rows
structure Kg (h : Heap) (x dx C : Addr) (mA : Str → Option Value) : Prop where
  obj : h.get? x = some (PySem.W.instObj C dx)
  ns : h.Ns1 dx mA
  ne : dx ≠ x
section
variable {prog : Program} {w : World} {A : Around} {E : Value → Shared → Prop} {s : Shared} {K : PySem.W.Frag} {x dx C f : Addr} {mA : Str → Option Value} {name : Str} {v : Value}
end
section
variable {P : Program} {w : World} {H H' : Hp} {h h' : Heap} {a C dx : Addr} {fs fs' : List (Str × V)}
end
structure Cls (K : PySem.W.Frag) (C : Addr) : Prop where
  pg : PySem.W.plainGet K C Str.empty = true
  hd : PySem.W.hasDictIn K C = true
  po : PySem.W.plainOver K C = true
  sa : PySem.W.findIn K (.ref C) "__setattr__" = some (some (.builtin "object.__setattr__"))
structure Con (K : PySem.W.Frag) (C : Addr) (f : Str) (v : V) (u : Value) : Prop where
  at_ : PySem.W.findIn K (.ref C) f = some (some u)
  rel : bK v u
  get : PySem.W.specialIn K u "__get__" = some none
  cp : PySem.W.copiedNames.contains f = false
structure Kh (K : PySem.W.Frag) (C : Addr) (m : Str) (f : Addr) : Prop where
  at_ : PySem.W.findIn K (.ref C) m = some (some (.ref f))
  fn : PySem.W.isFn K (.ref f) = true
  kp : PySem.W.keepIn K (.ref f) = true
section
variable {X : Cx} {pins : List (Addr × Obj)} {σ : St} {H : Hp} {s : Shared} {a C dx : Addr} {fs : List (Str × V)} {f : Str} {v : V} {A : Around} {E : Value → Shared → Prop}
end
section
variable {X : Cx} {o e value : Expr} {f : Str} {pos pos' tpos : Pos} {ta tv : TE}
end
section
variable {X : Cx} {pins : List (Addr × Obj)} {σ : St} {H : Hp} {s : Shared} {A : Around} {E : Value → Shared → Prop} {Q : Value → Shared → Prop} {c : Value} {b : Bool}
inductive nF (K : PySem.W.Frag) (H : Hp) : V → Value → Prop where
  | non : nF K H .non (.type "NoneType")
  | bl (x : Bool) : nF K H (.bl x) (.type "bool")
  | int (i : Int) : nF K H (.int i) (.type "int")
  | str (x : Str) : nF K H (.str x) (.type "str")
  | flt (x : UInt64) : nF K H (.flt x) (.type "float")
  | lst {a : Addr} {xs : List V} (e : H a = some (.lst xs)) : nF K H (.ref a) (.type "list")
  | frz {a : Addr} {o : Obj} {xs : List V} (e : H a = some (.frz o (.lst xs))) : nF K H (.ref a) (.type "list")
  | tup {a : Addr} {xs : List V} (e : H a = some (.tup xs)) : nF K H (.ref a) (.type "tuple")
  | dK {a : Addr} {kvs : List (Key × V)} (e : H a = some (.dK kvs)) : nF K H (.ref a) (.type "dict")
  | dT {a : Addr} {kvs : List (List Key × V)} (e : H a = some (.dT kvs)) : nF K H (.ref a) (.type "dict")
  | ins {a C dx : Addr} {fs : List (Str × V)} (e : H a = some (.ins C dx fs)) (cl : Cls K C) (ha : PySem.W.findIn K (.ref C) "__class__" = some (some (.builtin "object.__class__")))
      (hn : PySem.W.specialIn K (.builtin "object.__class__") "__get__" = some (some (.builtin "getset_descriptor.__get__"))) (htk : PySem.W.takesIn K (.builtin "object.__class__") = some true)
      (hm : PySem.W.mroIn K C (.type "object") = some true) : nF K H (.ref a) (.ref C)
end
end L2
namespace L2
open PySem PySem.Spec PyProof.Rows
structure gE (k : Nat) (A : Around) : Prop where
  hd : A.handled = none
  dp : A.depth + 3 * k + 5 < recursionLimit
  un : A.units + 16 * k + 200 < cLine
theorem gE.mono {j k : Nat} {A : Around} (r : gE k A) (h : j ≤ k) : gE j A := ⟨r.hd, by have := r.dp; omega, by have := r.un; omega⟩
theorem gE.deeper {k : Nat} {A : Around} (r : gE (k + 1) A) (env : Env) : gE k (A.deeper env) :=
  ⟨r.hd, by have := r.dp; show A.depth + 1 + 3 * k + 5 < _; omega, by have := r.un; show A.units + 3 + 16 * k + 200 < _; omega⟩
theorem gE.depth {k : Nat} {A : Around} (r : gE k A) : A.depth < recursionLimit := by have := r.dp; omega
def JY : TA := fun _ H Q => Q [] H
def Jd (ta : TE) (tr : TA) : TA := fun σ H Q => ta σ H fun x H1 => tr σ H1 fun xs H2 => Q (x :: xs) H2
section
variable {X : Cx} {e : Expr} {es : List Expr} {te : TE} {t : TA} {pos : Pos}
theorem cD : PA X [] JY := fun _ _ _ _ H Q I h => Calls.spliced_nil ⟨[], H, I, .nil, h⟩
theorem bG (ha : PE X e te) (hr : PA X es t) (hs : starEach (e :: es) X.env = (false, eval e X.env) :: starEach es X.env := by rfl) : PA X (e :: es) (Jd te t) := by
  intro pos pins s σ H Q I h
  rw [hs]
  show wpAny _ _ (spliced ((false, eval e X.env) :: backTo pos (starEach es X.env))) _ _ s
  refine Calls.spliced_cons (thn (ha pins s σ H _ I h) fun u s1 ⟨x, H1, I1, r1, q1⟩ => ?_)
  exact thn (hr pos pins s1 σ H1 _ I1 q1) fun us s2 ⟨xs, H2, I2, r2, q2⟩ => ⟨x :: xs, H2, I2, .cons r1 r2, q2⟩
def JZ (t : TA) : TE := fun σ H Q => t σ H fun xs H1 => xs.length ≤ sizeLine ∧ ∀ p, H1 p = none → Q (.ref p) (upd H1 p (.tup xs))
def J0 (t : TA) : TE := fun σ H Q => t σ H fun xs H1 => xs.length ≤ sizeLine ∧ ∀ p, H1 p = none → Q (.ref p) (upd H1 p (.lst xs))
theorem DA {x1} (h : PA X es t) : PE X (.Tuple es x1 pos) (JZ t) := by
  intro pins s σ H Q I hq
  refine wpAny_Tuple_spliced (thn (h pos pins s σ H _ I hq) fun us s1 ⟨xs, H1, I1, r, z, q⟩ => ⟨by rw [← r.length]; exact z, ?_⟩)
  have hf : H1 s1.heap.objs.size = none := I1.hok.fresh (Nat.le_refl _)
  refine ⟨.ref s1.heap.objs.size, upd H1 s1.heap.objs.size (.tup xs), I1.laid (t' := s1.toks) (fun b u e => Heap.get?_push_of_some _ e) (Nat.le_refl _) ?_, rfl, q _ hf⟩
  exact ⟨z, us, r, ⟨_, Heap.get?_push_size _ rfl, rfl, _, rfl⟩⟩
theorem Hu (h : PA X es t) : PE X (.List es pos) (J0 t) := by
  intro pins s σ H Q I hq
  refine wpAny_List_spliced (thn (h pos pins s σ H _ I hq) fun us s1 ⟨xs, H1, I1, r, z, q⟩ => ⟨by rw [← r.length]; exact z, ?_⟩)
  have hf : H1 s1.heap.objs.size = none := I1.hok.fresh (Nat.le_refl _)
  refine ⟨.ref s1.heap.objs.size, upd H1 s1.heap.objs.size (.lst xs), I1.laid (t' := s1.toks) (fun b u e => Heap.get?_push_of_some _ e) (Nat.le_refl _) ?_, rfl, q _ hf⟩
  exact ⟨z, us, 0, r, Heap.get?_push_size _ rfl⟩
end
abbrev Sp := List V → Hp → VK → XK → Prop
abbrev CXT := List Env → Hp → Shared → XK → Value → Shared → Prop
structure Fs (P : Program) (w : World) (K : PySem.W.Frag) (mg : Str → Option Value) (base : Heap) (A : Around) (outer : List Env) (s : Shared) (H : Hp) : Prop where
  frames : A.frames = some outer
  mod : Mod K mg base
  bs : ∀ b o, base.get? b = some o → s.heap.get? b = some o ∧ H b = none
  bsz : base.objs.size ≤ s.heap.objs.size
  funs : s.heap.FunFrames base outer
  frf : ∀ b ∈ frs outer, H b = none
  hok : HOk P w H s.heap
  bare : AllBare s.gens
def CE (outer : List Env) (P : Program) (w : World) (H : Hp) (s : Shared) (Q : VK) (u : Value) (s' : Shared) : Prop :=
  ∃ v H', s'.os = s.os ∧ AllBare s'.gens ∧ Un (frs outer) [] H H' s.heap s'.heap ∧ HOk P w H' s'.heap ∧ bK v u ∧ Q v H'
def CR (CX : CXT) (outer : List Env) (P : Program) (w : World) (H : Hp) (s : Shared) (Q : VK) (E : XK) (r : Result) (s' : Shared) : Prop :=
  match r with
  | .ok (.ret u) => CE outer P w H s Q u s'
  | .ok _ => False
  | .error e => CX outer H s E e s'
structure ce (P : Program) (w : World) (K : PySem.W.Frag) (mg : Str → Option Value) (base : Heap) (CX : CXT) (k : Nat) (f : Addr) (fd : FuncData) (ps : List Str) (sp : Sp) : Prop where
  len : ∀ vs H Q E, sp vs H Q E → vs.length = ps.length
  run : ∀ (A : Around) (outer : List Env) (s : Shared) (H : Hp) (args : Args) (us : List Value) (vs : List V) (Q : VK) (E : XK), gE k A → Fs P w K mg base A outer s H → BindsTo s fd args (ps.zip us) → aP vs us → sp vs H Q E →
    codeAny (model P w) A (.call (.ref f) args) (CR CX outer P w H s Q E) s
section
variable {X : Cx} {pins : List (Addr × Obj)} {σ : St} {H : Hp} {s s' : Shared}
theorem Inv.env0 (I : Inv X pins σ H s) : Fs X.prog X.w X.K X.mg X.base X.A X.stack s H :=
  ⟨I.ok.frames, I.ok.mod, I.bs, Nat.le_trans I.ok.bsz I.sz, I.stack, I.stkFree, I.hok, I.bare⟩
theorem Inv.after {Q : VK} {u : Value} (I : Inv X pins σ H s) (h : CE X.stack X.prog X.w H s Q u s') : EP X pins σ Q u s' := by
  obtain ⟨v, H', os, bare, un, hok, r, q⟩ := h
  obtain ⟨hh, g, d, t, os'⟩ := s'
  obtain rfl : os' = s.os := os
  exact ⟨v, H', I.call (h' := hh) (g' := g) (d' := d) (t' := t) (ch := []) un hok bare (fun b z => absurd z (by simp)), r, q⟩
end
def Je (sp : Sp) (dvs : List V) (E : XK) (t : TA) : TE := fun σ H Q => t σ H fun vs H1 => sp (vs ++ dvs) H1 Q E
def jB (K : PySem.W.Frag) (fd : FuncData) (ps : List Str) (ds : List Value) : Prop :=
  ∀ (s : Shared) (us : List Value), K.In s.heap → (us ++ ds).length = ps.length → BindsTo s fd ⟨us, []⟩ (ps.zip (us ++ ds))
theorem jB.all {K : PySem.W.Frag} {fd : FuncData} {ps : List Str} (h : ∀ us : List Value, us.length = ps.length → bindArgs fd ⟨us, []⟩ = pure (ps.zip us)) : jB K fd ps [] := fun s us _ hl => by
  rw [List.append_nil] at hl ⊢
  exact .of_eq (h us hl)
def nG (CX : CXT) (X : Cx) (E : XK) : Prop := ∀ (pins : List (Addr × Obj)) (σ : St) (H : Hp) (s : Shared) (e : Value) (s' : Shared), Inv X pins σ H s → CX X.stack H s E e s' → X.xe e s'
section
variable {X : Cx} {CX : CXT} {k : Nat} {f C : Addr} {fd : FuncData} {ps : List Str} {sp : Sp} {dvs : List V} {ds : List Value} {E : XK} {x m : Str} {p pos apos : Pos} {e o : Expr} {es : List Expr} {ta : TE} {t : TA}
theorem Hv {pins : List (Addr × Obj)} {σ : St} {H : Hp} {s : Shared} {Q : VK} {us : List Value} {vs : List V} (F : ce X.prog X.w X.K X.mg X.base CX k f fd ps sp) (hr : gE k X.A) (hb : jB X.K fd ps ds) (hd : aP dvs ds) (hx : nG CX X E)
    (I : Inv X pins σ H s) (r : aP vs us) (h : sp (vs ++ dvs) H Q E) : wpAny (model X.prog X.w) X.A (call (.ref f) us) (EP X pins σ Q) X.xe s := by
  have r2 : aP (vs ++ dvs) (us ++ ds) := r.append hd
  have hl : (us ++ ds).length = ps.length := by rw [← r2.length]; exact F.len _ _ _ _ h
  refine wpAny_call (codeAny_mono (F.run X.A X.stack s H ⟨us, []⟩ (us ++ ds) (vs ++ dvs) Q E hr I.env0 (hb s us I.kIn hl) r2 h) fun r s' hq => ?_)
  cases r with
  | error e => exact hx pins σ H s e s' I hq
  | ok fl =>
    cases fl with
    | ret u => exact I.after hq
    | next => exact False.elim hq
    | brk => exact False.elim hq
    | cont => exact False.elim hq
theorem A0 (F : ce X.prog X.w X.K X.mg X.base CX k f fd ps sp) (hr : gE k X.A) (hg : Gl X x) (hm : X.mg x = some (.ref f)) (hk : PySem.W.keepIn X.K (.ref f) = true) (hb : jB X.K fd ps ds) (hd : aP dvs ds) (hx : nG CX X E)
    (ha : PA X (e :: es) t) (hdb : (x == ("__debug__" : Str)) = false := by decide) (he : starEach (e :: es) X.env = (false, eval e X.env) :: starEach es X.env := by rfl) (hpl : (backTo pos (starEach es X.env)).any (·.1) = false := by rfl) :
    PE X (.Call (.Name x p) (e :: es) [] pos) (Je sp dvs E t) := by
  intro pins s σ H Q I h
  refine wpAny_Call_Name_kw (tu I hg hm ?_ hdb)
  refine PySem.W.callWith_K (h₀ := X.base) I.ok.mod.kin hk (thn (ha pos pins s σ H _ I h) fun us s1 ⟨vs, H1, I1, r, q⟩ => ⟨I1.kIn, ?_⟩) he hpl
  exact Hv F hr hb hd hx I1 r q
structure Mk (K : PySem.W.Frag) (C f : Addr) : Prop where
  makes : PySem.W.makesIn K C = true
  init : PySem.W.findIn K (.ref C) "__init__" = some (some (.ref f))
  fn : PySem.W.isFn K (.ref f) = true
  kp : PySem.W.keepIn K (.ref C) = true
end
section
variable {X : Cx} {CX : CXT} {k : Nat} {f C : Addr} {fd : FuncData} {ps ks : List Str} {sp : Sp} {E : XK} {x m : Str} {p pos apos kpos : Pos} {e o : Expr} {es : List Expr} {kws : List Keyword} {te ta : TE} {t tk : TA} {nm : Option Str}
structure J1 (K : PySem.W.Frag) (fd : FuncData) (ps ks : List Str) (g : List Value → List Value → List Value) (gV : List V → List V → List V) : Prop where
  to : ∀ (s : Shared) (us ws : List Value), K.In s.heap → (g us ws).length = ps.length → BindsTo s fd ⟨us, ks.zip ws⟩ (ps.zip (g us ws))
  rel : ∀ {vs : List V} {us : List Value} {zs : List V} {ws : List Value}, aP vs us → aP zs ws → aP (gV vs zs) (g us ws)
variable {g : List Value → List Value → List Value} {gV : List V → List V → List V}
end
structure aR (N P : List Str) (sc : Scope) : Prop where
  kind : sc.kind = .function
  co : sc.isCoroutine = false
  gen : sc.isGenerator = false
  nd : N.Nodup
  pre : N.take P.length = P
  par : ∀ x ∈ P, sc.names.lookup x = some .local ∨ sc.names.lookup x = some .cell
  nofree : ∀ y ∈ sc.names, y.2 ≠ .free
theorem rL {kindOf : Str → Option NameKind} {x : Str} : ∀ {binds : List (Str × Value)} {m : Str → Option Value}, (∀ v, (x, v) ∉ binds) → bindL kindOf binds m x = m x
  | [], _, _ => rfl
  | (n, v) :: r, m, h => by
    unfold bindL
    rw [rL fun w hw => h w (List.mem_cons_of_mem _ hw)]
    split
    · have : x ≠ n := by rintro rfl; exact h v List.mem_cons_self
      simp [this]
    · rfl
theorem rM {kindOf : Str → Option NameKind} {x : Str} : ∀ {binds : List (Str × Value)} {m : Str → Option Value}, (∀ v, (x, v) ∉ binds) → bindC kindOf binds m x = m x
  | [], _, _ => rfl
  | (n, v) :: r, m, h => by
    unfold bindC
    rw [rM fun w hw => h w (List.mem_cons_of_mem _ hw)]
    split
    · rfl
    · have : x ≠ n := by rintro rfl; exact h v List.mem_cons_self
      simp [this]
theorem rN {kindOf : Str → Option NameKind} {x : Str} {v : Value} : ∀ {P : List Str} {vs : List Value} {i : Nat} {m : Str → Option Value}, P.Nodup → P[i]? = some x → vs[i]? = some v → kindOf x = some .local →
    bindL kindOf (P.zip vs) m x = some v
  | [], _, _, _, _, h, _, _ => by simp at h
  | _ :: _, [], _, _, _, _, h, _ => by simp at h
  | p :: P, w :: vs, 0, m, nd, h1, h2, hk => by
    simp at h1 h2; subst h1; subst h2
    show bindL kindOf ((p, w) :: P.zip vs) m p = _
    unfold bindL
    rw [rL fun v hv => (List.nodup_cons.mp nd).1 (List.of_mem_zip hv).1, if_pos hk]
    simp
  | p :: P, w :: vs, i + 1, m, nd, h1, h2, hk => by
    show bindL kindOf ((p, w) :: P.zip vs) m x = _
    unfold bindL
    exact rN (i := i) (List.nodup_cons.mp nd).2 (by simpa using h1) (by simpa using h2) hk
theorem rP {kindOf : Str → Option NameKind} {x : Str} {v : Value} : ∀ {P : List Str} {vs : List Value} {i : Nat} {m : Str → Option Value}, P.Nodup → P[i]? = some x → vs[i]? = some v → kindOf x ≠ some .local →
    bindC kindOf (P.zip vs) m x = some v
  | [], _, _, _, _, h, _, _ => by simp at h
  | _ :: _, [], _, _, _, _, h, _ => by simp at h
  | p :: P, w :: vs, 0, m, nd, h1, h2, hk => by
    simp at h1 h2; subst h1; subst h2
    show bindC kindOf ((p, w) :: P.zip vs) m p = _
    unfold bindC
    rw [rM fun v hv => (List.nodup_cons.mp nd).1 (List.of_mem_zip hv).1, if_neg hk]
    simp
  | p :: P, w :: vs, i + 1, m, nd, h1, h2, hk => by
    show bindC kindOf ((p, w) :: P.zip vs) m x = _
    unfold bindC
    exact rP (i := i) (List.nodup_cons.mp nd).2 (by simpa using h1) (by simpa using h2) hk
def iU (N : List Str) (vs : List V) : St := vs.map some ++ List.replicate (N.length - vs.length) none
def mW (CX : CXT) (P : Program) (w : World) (K : PySem.W.Frag) (mg : Str → Option Value) (base : Heap) (N : List Str) (qual : Str) (scope : Scope) (f : Addr) (cd : Value) (A : Around) (outer : List Env) (s : Shared) (H : Hp) (E : XK) : Cx where
  prog := P
  w := w
  K := K
  mg := mg
  base := base
  A := A.deeper (envOfC qual scope s.heap.objs.size f cd)
  N := N
  s₀ := s
  H₀ := H
  env := envOfC qual scope s.heap.objs.size f cd
  outer := outer
  stack := envOfC qual scope s.heap.objs.size f cd :: outer
  ex := []
  calm := true
  fn := fun _ => true
  pn := []
  xe := fun e s' => wpAny (model P w) (A.deeper (envOfC qual scope s.heap.objs.size f cd)) (leaving (envOfC qual scope s.heap.objs.size f cd) e) (fun _ s'' => CX outer H s E e s'') (fun e' s'' => CX outer H s E e' s'') s'
theorem vM {sc : Scope} {n : Nat} {x : Str} (h : sc.names.lookup x = some .cell) : ∃ c, (cellsFrom n sc.names []).lookup x = some c := by
  have q := PySem.W.cellsFrom_some sc.names n [] (.inl h)
  exact Option.isSome_iff_exists.mp q
theorem BV {CX : CXT} {P : Program} {w : World} {K : PySem.W.Frag} {mg : Str → Option Value} {base : Heap} {N ps : List Str} {qual : Str} {scope : Scope} {f : Addr} {cd : Value} {A : Around} {outer : List Env} {s s1 : Shared} {H : Hp} {E : XK} {us : List Value} {vs : List V}
    (S : aR N ps scope) (hd : A.handled = none) (e0 : Fs P w K mg base A outer s H) (hl : vs.length = ps.length) (r : aP vs us)
    (x : InCallC s s.heap.objs.size (bindL (envOfC qual scope s.heap.objs.size f cd).kindOf (ps.zip us) fun _ => none) (cellsFrom (s.heap.objs.size + 1) scope.names []) (bindC (envOfC qual scope s.heap.objs.size f cd).kindOf (ps.zip us) fun _ => none) s1) :
    Inv (mW CX P w K mg base N qual scope f cd A outer s H E) [] (iU N vs) H s1 := by
  have hpl : ps.length ≤ N.length := by have := congrArg List.length S.pre; rw [List.length_take] at this; omega
  obtain ⟨h1, tk, rfl, hk⟩ := x.done
  have noA : ∀ b : Addr, b ∉ (mW CX P w K mg base N qual scope f cd A outer s H E).ex := fun b z => absurd (show b ∈ ([] : List Addr) from z) (by simp)
  refine ⟨⟨e0.mod, S.kind, rfl, rfl, Nat.le_refl _, fun y z c h1 h2 => ?_, fun y hy => ?_, fun y c _ h => ?_, fun _ => hd, Around.frames_deeper e0.frames, .inr ⟨rfl, rfl⟩, fun b z => absurd z (noA b), e0.bs, e0.bsz, fun b _ _ => noA b, fun b z => absurd z (noA b), e0.funs, e0.frf⟩,
    rfl, e0.bare, Un.kept hk, ⟨_, x.toInCall.ns, fun i y v h1 h2 h3 => ?_⟩, fun y c h => ⟨_, x.cell y c h⟩, e0.hok.fresh (Nat.le_refl _), fun y c h => ?_, fun p hp => absurd (show p ∈ ([] : List (Addr × Obj)) from hp) (by simp), e0.hok.kept hk, ?_⟩
  · exact name_of_addr x.apart (PySem.mem_of_lookup h1) (PySem.mem_of_lookup h2)
  · have hy : scope.names.lookup y = some .cell ∨ scope.names.lookup y = some .free := hy
    rcases hy with hy | hy
    · exact vM hy
    · exact absurd rfl (S.nofree _ (PySem.mem_of_lookup hy))
  · exact Nat.le_of_lt (x.above y c (PySem.mem_of_lookup h))
  · have hi : i < vs.length := by
      unfold iU at h2
      by_cases hi : i < vs.length
      · exact hi
      · rw [List.getElem?_append_right (by simpa using hi)] at h2
        rw [List.getElem?_replicate] at h2
        split at h2 <;> cases h2
    have ha : vs[i]? = some v := by
      unfold iU at h2
      rw [List.getElem?_append_left (by simpa using hi), List.getElem?_map] at h2
      cases e : vs[i]? with
      | none => rw [e] at h2; cases h2
      | some a => rw [e] at h2; cases h2; rfl
    obtain ⟨u, hu, rv⟩ := r.get ha
    have hp : ps[i]? = some y := by
      rw [← S.pre, List.getElem?_take_of_lt (by omega)]; exact h1
    have ndP : ps.Nodup := by rw [← S.pre]; exact S.nd.sublist (List.take_sublist _ _)
    refine ⟨u, rv, ?_⟩
    rcases S.par y (List.mem_of_getElem? hp) with k | k
    · exact .inl ⟨k, rN ndP hp hu k⟩
    · obtain ⟨c, e⟩ := vM (n := s.heap.objs.size + 1) k
      refine .inr ⟨.inl k, c, e, ?_⟩
      have q := x.cell y c e
      rw [rP ndP hp hu (by show scope.names.lookup y ≠ _; rw [k]; decide)] at q
      exact q
  · exact e0.hok.fresh (Nat.le_of_lt (x.above y c (PySem.mem_of_lookup h)))
  · unfold iU
    show _ = N.length
    rw [List.length_append, List.length_map, List.length_replicate]
    omega
theorem GO {CX : CXT} {P : Program} {w : World} {K : PySem.W.Frag} {mg : Str → Option Value} {base : Heap} {k : Nat} {f : Addr} {name qual : Str} {params : Arguments} {body : List Stmt} {scope : Scope} {dV kV doc pm cdv ct oc : Value} {an od : Option Addr}
    {osl : Array (Option Value)} {N ps : List Str} {sp : Sp} (lk : K.lookup f = some ⟨oc, od, .func (PySem.W.fnOf name qual params body scope dV kV doc pm an cdv ct), osl⟩) (hcd : PySem.W.codeIn K cdv qual = true) (S : aR N ps scope)
    (len : ∀ vs H Q E, sp vs H Q E → vs.length = ps.length)
    (hbody : ∀ (A : Around) (outer : List Env) (s : Shared) (H : Hp) (vs : List V) (Q : VK) (E : XK), gE k (A.deeper (envOfC qual scope s.heap.objs.size f cdv)) → sp vs H Q E →
      ∃ t, PSs (mW CX P w K mg base N qual scope f cdv A outer s H E) body t ∧ t { nx := fun _ H' => Q .non H', rt := Q } (iU N vs) H) :
    ce P w K mg base CX (k + 1) f (PySem.W.fnOf name qual params body scope dV kV doc pm an cdv ct) ps sp := by
  refine ⟨len, fun A outer s H args us vs Q E hr e0 hb r hsp => ?_⟩
  have hl := len _ _ _ _ hsp
  have KX : K.In s.heap := e0.mod.kin.keeps fun b o e => (e0.bs b o e).1
  have lim : s.heap.NoLimit := e0.mod.nolimit.keeps fun b o e => (e0.bs b o e).1
  have hkind : ∀ y ∈ ps.zip us, scope.names.lookup y.1 = some .local ∨ (scope.names.lookup y.1 = some .cell ∧ ((cellsFrom (s.heap.objs.size + 1) scope.names []).lookup y.1).isSome = true) := fun ⟨n, v⟩ hy => by
    rcases S.par n (List.of_mem_zip hy).1 with q | q
    · exact .inl q
    · exact .inr ⟨q, PySem.W.cellsFrom_some _ _ _ (.inl q)⟩
  refine codeAny_call_function hr.depth (KX _ _ lk) rfl S.co S.gen rfl (PySem.W.codeRec_of KX hcd) (hb _ _ _ _ ?_)
  refine wpAny_newFunctionEnv_cells S.kind hkind fun env he s1 x => ?_
  subst he
  refine ⟨lim.keeps x.toInCall.keep, codeAny_func ?_⟩
  obtain ⟨t, ht, hq⟩ := hbody A outer s H vs Q E (hr.deeper _) hsp
  have I : Inv (mW CX P w K mg base N qual scope f cdv A outer s H E) [] (iU N vs) H s1 := BV S hr.hd e0 hl r x
  refine wpAny_mono (ht [] s1 (iU N vs) H _ I hq) (fun fl s' hs => ?_) fun e s' hs => hs
  have fin : ∀ {σ' : St} {H' : Hp} {v : V} {u : Value}, Inv (mW CX P w K mg base N qual scope f cdv A outer s H E) [] σ' H' s' → bK v u → Q v H' → CE outer P w H s Q u s' :=
    fun {σ' H' v u} J rv q => ⟨v, H', J.os, J.bare, J.base, J.hok, rv, q⟩
  cases fl with
  | ret u =>
    obtain ⟨v, σ', H', J, rv, q⟩ := hs
    exact fin J rv q
  | next =>
    obtain ⟨σ', H', J, q⟩ := hs
    exact fin (v := V.non) (u := Value.none) J rfl q
  | brk =>
    obtain ⟨_, _, _, q⟩ := hs
    exact False.elim q
  | cont =>
    obtain ⟨_, _, _, q⟩ := hs
    exact False.elim q
end L2
namespace L2
open PySem PySem.Spec PyProof.Rows
section
variable {X : Cx} {x : Str} {p pos : Pos} {e : Expr} {es : List Expr} {t : TA} {id T : String} {r : List V → Hp → VK → Prop}
def tCB (r : List V → Hp → VK → Prop) (t : TA) : TE := fun σ H Q => t σ H fun vs H1 => r vs H1 Q
theorem gS (hc : gp X (.builtin id) r) (hg : Gl X x) (hm : X.mg x = none) (hv : bootBuiltins x = some (.builtin id)) (ha : PA X (e :: es) t) (hn : x ≠ "__name__" := by decide) (hdb : (x == ("__debug__" : Str)) = false := by decide)
    (he : starEach (e :: es) X.env = (false, eval e X.env) :: starEach es X.env := by rfl) (hpl : (backTo pos (starEach es X.env)).any (·.1) = false := by rfl) : PE X (.Call (.Name x p) (e :: es) [] pos) (tCB r t) := by
  intro pins s σ H Q I h
  refine wpAny_Call_Name_kw (iT I hg hm hv ?_ hn hdb)
  exact PyProof.Rows.callWith_builtin1 (thn (ha pos pins s σ H _ I h) fun us s1 ⟨vs, H1, I1, r1, q1⟩ => hc pins s1 σ H1 vs us Q I1 r1 q1) he hpl
theorem rS (hc : gp X (.type T) r) (hg : Gl X x) (hm : X.mg x = none) (hv : bootBuiltins x = some (.type T)) (ha : PA X (e :: es) t) (hn : x ≠ "__name__" := by decide) (hdb : (x == ("__debug__" : Str)) = false := by decide)
    (he : starEach (e :: es) X.env = (false, eval e X.env) :: starEach es X.env := by rfl) (hpl : (backTo pos (starEach es X.env)).any (·.1) = false := by rfl) : PE X (.Call (.Name x p) (e :: es) [] pos) (tCB r t) := by
  intro pins s σ H Q I h
  refine wpAny_Call_Name_kw (iT I hg hm hv ?_ hn hdb)
  exact PyProof.Rows.callWith_type1 (thn (ha pos pins s σ H _ I h) fun us s1 ⟨vs, H1, I1, r1, q1⟩ => hc pins s1 σ H1 vs us Q I1 r1 q1) he hpl
end
end L2
namespace HT
open PySem PyProof.Rows
def bN : List Int → List Int → Bool
  | [], [] => false
  | [], _ :: _ => true
  | _ :: _, [] => false
  | x :: xs, y :: ys => if x = y then bN xs ys else decide (x < y)
section
open PySem.SeqAt
open PySem.AutoSeq1 (wpAny_loadPart')
open PySem.MeetsSeq PySem.MeetsSeq2 PySem.MeetsSeq3
end
section
variable {prog : Program} {w : World} {A : Around} {E : Value → Shared → Prop} {s : Shared}
theorem cat_tup {t b : Addr} {vs ws : List Value} {Q : Value → Shared → Prop} (ht : IsTup s.heap t vs.toArray) (hb : IsTup s.heap b ws.toArray) (hv : vs ≠ [])
    (h1 : ws = [] → Q (.ref t) s) (h2 : ws ≠ [] → Q (.ref s.heap.objs.size) { s with heap := s.heap.push { cls := .type "tuple", data := .seq (vs ++ ws).toArray } })
    (hsz : vs.length + ws.length ≤ sizeLine) : wpAny (model prog w) A (binaryOp .Add (.ref t) (.ref b)) Q E s := by
  obtain ⟨⟨cls, dd, data, sl⟩, ho, hc, n, hd⟩ := id ht
  obtain ⟨⟨cls2, dd2, data2, sl2⟩, ho2, hc2, n2, hd2⟩ := id hb
  simp only at hc hd hc2 hd2
  subst hc hd hc2 hd2
  have e : vs.toArray ++ ws.toArray = (vs ++ ws).toArray := by simp
  by_cases hw : ws = []
  · exact concat_meets ⟨_, ho, rfl⟩ ⟨_, ho2, rfl⟩ noFill_tuple_add seq_tuple_add PySem.F.slot_tuple_add PySem.F.entry_tuple_add (PySem.F.args_tuple_add_2 _ _)
      (tuple_addW1 t b vs.toArray ws.toArray n n2 dd dd2 sl sl2 (by simpa using hv) (by simp [hw])) ⟨ho, ho2, h1 hw⟩
  · refine concat_meets ⟨_, ho, rfl⟩ ⟨_, ho2, rfl⟩ noFill_tuple_add seq_tuple_add PySem.F.slot_tuple_add PySem.F.entry_tuple_add (PySem.F.args_tuple_add_2 _ _)
      (tuple_addW2 t b vs.toArray ws.toArray n n2 dd dd2 sl sl2 (by simpa using hv) (by simpa using hw) (by rw [List.size_toArray, List.size_toArray]; exact hsz)) ⟨ho, ho2, ?_⟩
    rw [e]
    exact h2 hw
def sIx (n d : Nat) : Option Int → Nat
  | none => d
  | some v => if v < 0 then (v + (n : Int)).toNat else min v.toNat n
theorem Hw (n d : Nat) (hd : d ≤ n) (o : Option Int) : sIx n d o ≤ n := by
  cases o with
  | none => exact hd
  | some v =>
    show (if v < 0 then (v + (n : Int)).toNat else min v.toNat n) ≤ n
    by_cases hv : v < 0
    · rw [if_pos hv]; omega
    · rw [if_neg hv]; exact Nat.min_le_right _ _
theorem A1 (v : Int) (n d : Nat) : (if v < 0 then max (v + (n : Int)) 0 else min v (n : Int)) = ((sIx n d (some v) : Nat) : Int) := by
  show (if v < 0 then max (v + (n : Int)) 0 else min v (n : Int)) = (((if v < 0 then (v + (n : Int)).toNat else min v.toNat n) : Nat) : Int)
  by_cases hv : v < 0
  · simp only [if_pos hv]; omega
  · simp only [if_neg hv]; omega
theorem yg (lo hi : Option Int) (n : Nat) : Builtin.Slice.sliceAdjust lo hi 1 (n : Int) = (((sIx n 0 lo : Nat) : Int), ((sIx n n hi : Nat) : Int)) := by
  have h1 : ¬ ((1 : Int) < 0) := by omega
  unfold Builtin.Slice.sliceAdjust
  simp only [h1, if_false]
  refine Prod.ext ?_ ?_
  · cases lo with
    | none => rfl
    | some v => exact A1 v n 0
  · cases hi with
    | none => rfl
    | some v => exact A1 v n n
theorem yh (i j : Nat) : Builtin.Slice.slicePlaces (i : Int) (j : Int) 1 = j - i := by
  unfold Builtin.Slice.slicePlaces
  have h1 : (1 : Int) > 0 := by omega
  simp only [h1, if_true, Int.ediv_one]
  split <;> omega
theorem nH {v : Value} {o : Option Int} {Q : Option Int → Shared → Prop} (p : IsPart v o) (h : Q o s) : wpAny (model prog w) A (Builtin.Slice.slicePartIndex v) Q E s := by
  cases p with
  | none => exact slicePart_none h
  | int i t => exact slicePart_int h
theorem lq {sl : Addr} {vl vu : Value} {lo hi : Option Int} {n : Nat} {Q : Int × Int × Nat → Shared → Prop} (hs : s.heap.IsSliceOf sl vl vu .none) (pl : IsPart vl lo) (pu : IsPart vu hi)
    (h : Q (((sIx n 0 lo : Nat) : Int), 1, sIx n n hi - sIx n 0 lo) s) : wpAny (model prog w) A (Builtin.Slice.sliceApplied (.ref sl) (pure (n : Int))) Q E s := by
  obtain ⟨os, hos, hcs, hds⟩ := id hs
  unfold Builtin.Slice.sliceApplied Builtin.Slice.sliceFields
  refine wpAny_bind (wpAny_bind (wpAny_field hos hds (x := vl) rfl (wpAny_bind (wpAny_field hos hds (x := vu) rfl (wpAny_bind (wpAny_field hos hds (x := .none) rfl (wpAny_pure ?_)))))))
  refine wpAny_bind (slicePart_none ?_)
  show wpAny _ _ (if ((1 : Int) == 0) = true then _ else _) _ _ s
  rw [if_neg (by decide)]
  refine wpAny_bind (nH pl (wpAny_bind (nH pu (wpAny_bind (wpAny_pure ?_)))))
  show wpAny _ _ (match Builtin.Slice.sliceAdjust lo hi 1 (n : Int) with | (lo, hi) => pure (lo, (1 : Int), Builtin.Slice.slicePlaces lo hi 1)) _ _ s
  rw [yg lo hi n]
  show wpAny _ _ (pure (((sIx n 0 lo : Nat) : Int), (1 : Int), Builtin.Slice.slicePlaces ((sIx n 0 lo : Nat) : Int) ((sIx n n hi : Nat) : Int) 1)) _ _ s
  rw [yh]
  exact wpAny_pure h
theorem DB (xs : Array Value) (i k : Nat) : ((List.range k).filterMap fun (m : Nat) => xs[((i : Int) + (m : Int) * 1).toNat]?).toArray = ((xs.toList.drop i).take k).toArray := by
  have e : (fun (m : Nat) => xs[((i : Int) + (m : Int) * 1).toNat]?) = fun m => xs[i + m]? := by
    funext m
    have : ((i : Int) + (m : Int) * 1).toNat = i + m := by omega
    rw [this]
  rw [e]
  have := pick_run xs i k
  rw [List.filterMap_map] at this
  have e2 : ((fun x => xs[x]?) ∘ fun x => i + x) = fun m => xs[i + m]? := rfl
  rw [e2] at this
  rw [this]
theorem getItem_tuple_cut {t sl : Addr} {items : Array Value} {vl vu : Value} {lo hi : Option Int} {Q : Value → Shared → Prop} (ht : IsTup s.heap t items) (hs : s.heap.IsSliceOf sl vl vu .none) (pl : IsPart vl lo) (pu : IsPart vu hi)
    (hw : ¬ (sIx items.size 0 lo = 0 ∧ sIx items.size items.size hi = items.size))
    (h : Q (.ref s.heap.objs.size) { s with heap := s.heap.push { cls := .type "tuple", data := .seq ((items.toList.drop (sIx items.size 0 lo)).take (sIx items.size items.size hi - sIx items.size 0 lo)).toArray } })
    (hsz : items.size ≤ sizeLine) : wpAny (model prog w) A (getItem (.ref t) (.ref sl)) Q E s := by
  have htake : sizeOk (.seq ((items.toList.drop (sIx items.size 0 lo)).take (sIx items.size items.size hi - sIx items.size 0 lo)).toArray) := by
    show ((items.toList.drop (sIx items.size 0 lo)).take (sIx items.size items.size hi - sIx items.size 0 lo)).toArray.size ≤ sizeLine
    rw [List.size_toArray, List.length_take, List.length_drop, Array.length_toList]
    omega
  have hj : sIx items.size items.size hi ≤ items.size := Hw _ _ (Nat.le_refl _) hi
  obtain ⟨os, hos, hcs, hds⟩ := id hs
  have hTs : s.TypeIs (.ref sl) "slice" := ⟨os, hos, hcs⟩
  unfold getItem
  try with_reducible refine wpAny_holding ?_
  first | refine wpAny_bind (wpAny_pure ?_) | skip
  refine wpAny_bind (wpAny_sequenceKey ht.typeIs (by decide) ?_)
  refine wpAny_bind (wpAny_callSpecial?_slot (name := Str.ofString "__getitem__") ht.typeIs PyProof.Rows.slot_tuple_getitem
    (wpAny_call_entry PyProof.Rows.slot_tuple_getitem ht.typeIs entry_tuple_getitem ?_ (args_tuple_getitem _ _)))
  show wpAny _ _ (Builtin.Tuple.tupleItemsOf (.ref t) >>= _) _ _ s
  refine wpAny_bind (tupleItemsOf_ ht ?_)
  refine wpAny_bind (wpAny_typeOf hTs ?_)
  rw [if_pos (by decide)]
  refine wpAny_bind (lq hs pl pu ?_)
  have hno : ¬ ((((sIx items.size 0 lo : Nat) : Int) == 0 && (1 : Int) == 1 && (sIx items.size items.size hi - sIx items.size 0 lo) == items.size) = true) := by
    intro q
    rw [Bool.and_eq_true, Bool.and_eq_true] at q
    have q1 : ((sIx items.size 0 lo : Nat) : Int) = 0 := eq_of_beq q.1.1
    have q2 : sIx items.size items.size hi - sIx items.size 0 lo = items.size := eq_of_beq q.2
    exact hw ⟨by omega, by omega⟩
  show wpAny _ _ (if (((sIx items.size 0 lo : Nat) : Int) == 0 && (1 : Int) == 1 && (sIx items.size items.size hi - sIx items.size 0 lo) == items.size) = true then _ else _) _ _ s
  rw [if_neg hno, DB]
  first
    | exact wpAny_bind (m := Builtin.Tuple.tupleExact _) (wpAny_newObj_type (wpAny_pure ⟨_, rfl, wpAny_pure h⟩) htake)
    | exact wpAny_bind (m := Builtin.Tuple.tupleExact _) (wpAny_newObj_type (wpAny_bind (wpAny_pure (wpAny_pure ⟨_, rfl, wpAny_pure h⟩))) htake)
    | exact wpAny_bind (wpAny_bind (m := Builtin.Tuple.tupleExact _) (wpAny_newObj_type (wpAny_pure (wpAny_pure ⟨_, rfl, wpAny_pure h⟩)) htake))
    | exact wpAny_bind (wpAny_bind (m := Builtin.Tuple.tupleExact _) (wpAny_newObj_type (wpAny_pure ⟨_, rfl, wpAny_pure h⟩) htake))
end
end HT
namespace L2
open PySem PySem.Spec PyProof.Rows
abbrev TO := St → Hp → (Option Int → Hp → Prop) → Prop
def PO (X : Cx) (e : Option Expr) (t : TO) : Prop :=
  ∀ (pins : List (Addr × Obj)) (s : Shared) (σ : St) (H : Hp) (Q : Option Int → Hp → Prop), Inv X pins σ H s → t σ H Q →
    wpAny (model X.prog X.w) X.A (evalPart e X.env) (fun u s' => ∃ o H', Inv X pins σ H' s' ∧ IsPart u o ∧ Q o H') X.xe s
def Fu : TO := fun _ H Q => Q none H
def Jf (t : TE) : TO := fun σ H Q => t σ H fun x H1 => ∃ i, x = .int i ∧ Q (some i) H1
theorem nI {ns : List Int} : ∀ {us : List Value}, aP (ns.map V.int) us → IntsAre us ns := by
  induction ns with
  | nil => intro us r; rw [List.map_nil] at r; cases r; exact .nil
  | cons n ns ih =>
    intro us r
    rw [List.map_cons] at r
    cases r with
    | cons r1 r2 =>
      obtain ⟨t, e⟩ := r1
      subst e
      exact .cons n t (ih r2)
section
variable {X : Cx} {e : Expr} {te : TE} {lo hi : Option Expr} {tl th : TO} {pos p2 : Pos}
theorem Fv : PO X none Fu := by
  intro pins s σ H Q I h
  rw [evalPart_none]
  exact wpAny_pure ⟨none, H, I, .none, h⟩
theorem Fw (h : PE X e te) : PO X (some e) (Jf te) := by
  intro pins s σ H Q I hw
  rw [evalPart_some]
  refine thn (h pins s σ H _ I hw) fun u s1 ⟨x, H1, I1, r1, q1⟩ => ?_
  obtain ⟨i, rfl, q⟩ := q1
  obtain ⟨t, rfl⟩ := r1
  exact ⟨some i, H1, I1, .int i t, q⟩
def SlR (X : Cx) (r : V → Option Int → Option Int → Hp → VK → Prop) : Prop :=
  ∀ (pins : List (Addr × Obj)) (s : Shared) (σ : St) (H : Hp) (x : V) (v vl vu : Value) (lo hi : Option Int) (sl : Addr) (Q : VK), Inv X pins σ H s → bK x v → s.heap.IsSliceOf sl vl vu .none → IsPart vl lo → IsPart vu hi → r x lo hi H Q →
    ∃ T id, typeLookup (.type T) "__getitem__" = pure (some (.builtin id)) ∧ s.TypeIs v T ∧ wpAny (model X.prog X.w) X.A (getItem v (.ref sl)) (EP X pins σ Q) X.xe s
theorem SlR.or {r r' : V → Option Int → Option Int → Hp → VK → Prop} (h : SlR X r) (h' : SlR X r') : SlR X (fun x lo hi H Q => r x lo hi H Q ∨ r' x lo hi H Q) := by
  intro pins s σ H x v vl vu lo hi sl Q I rx hs pl pu q
  rcases q with q | q
  · exact h pins s σ H x v vl vu lo hi sl Q I rx hs pl pu q
  · exact h' pins s σ H x v vl vu lo hi sl Q I rx hs pl pu q
def tSl (r : V → Option Int → Option Int → Hp → VK → Prop) (te : TE) (tl th : TO) : TE := fun σ H Q => te σ H fun x H1 => tl σ H1 fun l H2 => th σ H2 fun u H3 => r x l u H3 Q
theorem DC {r : V → Option Int → Option Int → Hp → VK → Prop} (hr : SlR X r) (he : PE X e te) (hl : PO X lo tl) (hu : PO X hi th) : PE X (.Subscript e (.Slice lo hi none p2) pos) (tSl r te tl th) := by
  intro pins s σ H Q I h
  refine Subscript_ (thn (he pins s σ H _ I h) fun v s1 ⟨x, H1, I1, r1, q1⟩ => ?_)
  refine wpAny_Slice (thn (hl pins s1 σ H1 _ I1 q1) fun vl s2 ⟨l, H2, I2, pl, q2⟩ => thn (hu pins s2 σ H2 _ I2 q2) fun vu s3 ⟨u, H3, I3, pu, q3⟩ => ?_)
  rw [evalPart_none]
  refine wpAny_pure ?_
  have I4 : Inv X pins σ H3 { s3 with heap := s3.heap.push { cls := .type "slice", data := .fields #[vl, vu, .none] } } := I3.kept (t' := s3.toks) fun b ob q => Heap.get?_push_of_some _ q
  obtain ⟨T, id, hT, ht, hg⟩ := hr pins { s3 with heap := s3.heap.push { cls := .type "slice", data := .fields #[vl, vu, .none] } } σ H3 x v vl vu l u s3.heap.objs.size Q I4 r1 (Heap.IsSliceOf.new ..) pl pu q3
  show wpAny (model X.prog X.w) X.A (subscriptTail e (.Slice lo hi none p2) v (.ref s3.heap.objs.size)) (EP X pins σ Q) X.xe { s3 with heap := s3.heap.push { cls := .type "slice", data := .fields #[vl, vu, .none] } }
  exact tail_any (ops := [.ref s3.heap.objs.size, v]) ht hT hg (by with_unfolding_all rfl)
def nJ (xs : List V) (lo hi : Option Int) : List V := (xs.drop (HT.sIx xs.length 0 lo)).take (HT.sIx xs.length xs.length hi - HT.sIx xs.length 0 lo)
theorem mx (xs : List V) (lo hi : Option Int) : (nJ xs lo hi).length ≤ xs.length := by
  unfold nJ
  rw [List.length_take, List.length_drop]
  omega
def J2 (K : PySem.W.Frag) : V → Option Int → Option Int → Hp → VK → Prop := fun x lo hi H Q => ∃ a xs, x = .ref a ∧ SqT K H a xs ∧
  ¬ (HT.sIx xs.length 0 lo = 0 ∧ HT.sIx xs.length xs.length hi = xs.length) ∧ ∀ p, H p = none → Q (.ref p) (upd H p (.tup (nJ xs lo hi)))
theorem Hx : SlR X (J2 X.K) := by
  intro pins s σ H x v vl vu lo hi sl Q I rx hs pl pu h
  obtain ⟨a, xs, rfl, hx, hw, q⟩ := h
  cases rx
  obtain ⟨its, r, ht, hz⟩ := I.tuple hx
  have hlen : its.toArray.size = xs.length := by rw [List.size_toArray]; exact r.length.symm
  refine ⟨"tuple", _, PyProof.Rows.slot_tuple_getitem.lookup, ht.typeIs, ?_⟩
  refine HT.getItem_tuple_cut ht hs pl pu (by rw [hlen]; exact hw) ?_ (by rw [hlen]; exact hz)
  rw [hlen]
  refine ⟨.ref s.heap.objs.size, _, I.laid (t' := s.toks) (o := .tup (nJ xs lo hi)) (fun b ob q => Heap.get?_push_of_some _ q) (Nat.le_refl _) ?_, rfl, q _ (I.hok.fresh (Nat.le_refl _))⟩
  exact ⟨Nat.le_trans (mx xs lo hi) hz, _, (r.drop (HT.sIx xs.length 0 lo)).take (HT.sIx xs.length xs.length hi - HT.sIx xs.length 0 lo), IsTup.new _ _⟩
def vN (K : PySem.W.Frag) : R2 := fun x y H Q => ∃ a b xs ys, x = .ref a ∧ y = .ref b ∧ SqT K H a xs ∧ SqT K H b ys ∧ xs ≠ [] ∧ xs.length + ys.length ≤ sizeLine ∧
  (ys = [] → Q (.ref a) H) ∧ (ys ≠ [] → ∀ p, H p = none → Q (.ref p) (upd H p (.tup (xs ++ ys))))
theorem aP.nil_iff {xs : List V} {us : List Value} (r : aP xs us) : us = [] ↔ xs = [] := by
  cases r with
  | nil => simp
  | cons _ _ => simp
theorem A2 : OpR X (binaryOp .Add) (vN X.K) := by
  intro pins s σ H x y v u Q I rx ry h
  obtain ⟨a, b, xs, ys, rfl, rfl, ha, hb, hx, hz, q1, q2⟩ := h
  cases rx
  cases ry
  obtain ⟨its, r1, p1, _⟩ := I.tuple ha
  obtain ⟨its2, r2, p2, _⟩ := I.tuple hb
  refine HT.cat_tup p1 p2 (fun z => hx (r1.nil_iff.mp z)) (fun z => ⟨.ref a, H, I, rfl, q1 (r2.nil_iff.mp z)⟩) (fun z => ?_) (by rw [← r1.length, ← r2.length]; exact hz)
  refine ⟨.ref s.heap.objs.size, _, I.laid (t' := s.toks) (o := .tup (xs ++ ys)) (fun b ob q => Heap.get?_push_of_some _ q) (Nat.le_refl _) ?_, rfl, q2 (fun w => z (r2.nil_iff.mpr w)) _ (I.hok.fresh (Nat.le_refl _))⟩
  exact ⟨by rw [List.length_append]; exact hz, _, r1.append r2, IsTup.new _ _⟩
end
end L2
namespace L2
open PySem PySem.Spec PyProof.Rows
def ixN (n : Nat) (i : Int) : Option Nat := if 0 ≤ i then (if i < n then some i.toNat else none) else if -(n : Int) ≤ i then some (i + n).toNat else none
def atI {α : Type} (xs : List α) (i : Int) : Option α := (ixN xs.length i).bind fun j => xs[j]?
theorem A3 {n : Nat} {i : Int} {j : Nat} (h : ixN n i = some j) : seqIndex? i n = some j ∧ j < n ∧ -(n : Int) ≤ i ∧ i < n := by
  unfold ixN at h
  by_cases h0 : 0 ≤ i
  · rw [if_pos h0] at h
    by_cases h1 : i < n
    · rw [if_pos h1] at h
      have e : i.toNat = j := Option.some.inj h
      exact ⟨by rw [seqIndex_of h0 h1, e], by omega, by omega, h1⟩
    · rw [if_neg h1] at h; cases h
  · rw [if_neg h0] at h
    by_cases h1 : -(n : Int) ≤ i
    · rw [if_pos h1] at h
      have e : (i + n).toNat = j := Option.some.inj h
      exact ⟨by rw [seqIndex_neg (by omega) h1, e], by omega, h1, by omega⟩
    · rw [if_neg h1] at h; cases h
theorem tG {α : Type} {xs : List α} {i : Int} {v : α} (h : atI xs i = some v) : ∃ j, seqIndex? i xs.length = some j ∧ xs[j]? = some v ∧ j < xs.length ∧ -(xs.length : Int) ≤ i ∧ i < xs.length := by
  unfold atI at h
  cases e : ixN xs.length i with
  | none => rw [e] at h; cases h
  | some j =>
    rw [e] at h
    obtain ⟨h1, h2, h3, h4⟩ := A3 e
    exact ⟨j, h1, h, h2, h3, h4⟩
theorem da {α : Type} {xs : List α} {j : Nat} {v : α} (h : xs[j]? = some v) : atI xs (j : Int) = some v := by
  have hj : j < xs.length := (List.getElem?_eq_some_iff.mp h).1
  have e : ixN xs.length (j : Int) = some j := by
    unfold ixN
    rw [if_pos (by omega), if_pos (by omega)]; simp
  unfold atI; rw [e]; exact h
def tH (b : Expr) : Prop := ∀ o i, subscripted b false o i = operate [o, i] (getItem o i)
def IxR (X : Cx) (r : R2) : Prop :=
  ∀ (value slice : Expr) (pins : List (Addr × Obj)) (s : Shared) (σ : St) (H : Hp) (x y : V) (v u : Value) (Q : VK), Inv X pins σ H s → bK x v → bK y u → r x y H Q →
    subscripted slice false v u = operate [v, u] (getItem v u) → wpAny (model X.prog X.w) X.A (subscriptTail value slice v u) (EP X pins σ Q) X.xe s
def MtR (X : Cx) (id : String) (r : V → List V → Hp → VK → Prop) : Prop :=
  ∀ (pins : List (Addr × Obj)) (s : Shared) (σ : St) (H : Hp) (x : V) (xs : List V) (v : Value) (us : List Value) (Q : VK), Inv X pins σ H s → bK x v → aP xs us → r x xs H Q →
    wpAny (model X.prog X.w) X.A (call (.builtin id) (v :: us)) (EP X pins σ Q) X.xe s
section
variable {X : Cx} {a b : Expr} {ta tb : TE} {pos : Pos}
theorem IxR.or {r r' : R2} (h : IxR X r) (h' : IxR X r') : IxR X (fun x y H Q => r x y H Q ∨ r' x y H Q) := by
  intro value slice pins s σ H x y v u Q I rx ry q hs
  rcases q with q | q
  · exact h value slice pins s σ H x y v u Q I rx ry q hs
  · exact h' value slice pins s σ H x y v u Q I rx ry q hs
theorem GP {r : R2} (hr : IxR X r) (ha : PE X a ta) (hb : PE X b tb) (hs : tH b) : PE X (.Subscript a b pos) (tOp r ta tb) := by
  intro pins s σ H Q I h
  exact Subscript_ (Hn ha hb I h fun v u s2 x y H2 I2 rx ry q => hr a b pins s2 σ H2 x y v u Q I2 rx ry q (hs _ _))
def Jg (K : PySem.W.Frag) : R2 := fun x y H Q => ∃ p xs i v, x = .ref p ∧ y = .int i ∧ SqL K H p xs ∧ atI xs i = some v ∧ Q v H
def Jh (K : PySem.W.Frag) : R2 := fun x y H Q => ∃ p xs i v, x = .ref p ∧ y = .int i ∧ SqT K H p xs ∧ atI xs i = some v ∧ Q v H
def Ji : R2 := fun x y H Q => ∃ z i c, x = .str z ∧ y = .int i ∧ z.length ≤ sizeLine ∧ atI z.cps.toList i = some c ∧ Q (.str ⟨#[c]⟩) H
theorem A4 : IxR X (Jg X.K) := by
  intro value slice pins s σ H x y v u Q I rx ry h hs
  obtain ⟨p, xs, i, z, rfl, rfl, hq, he, q⟩ := h
  cases rx
  obtain ⟨t, rfl⟩ := ry
  obtain ⟨its, r, pl, hz⟩ := I.list hq
  obtain ⟨j, h1, h2, h3, h4, h5⟩ := tG he
  obtain ⟨w, ew, rw'⟩ := r.get h2
  have hl := r.length
  have hn := nE
  have fin : EP X pins σ Q w s := ⟨z, H, I, rw', q⟩
  by_cases h0 : 0 ≤ i
  · have hj : i.toNat = j := by
      rw [seqIndex_of h0 h5] at h1
      exact Option.some.inj h1
    exact item_listR pl.isList h0 (by omega) (by rw [hj]; simpa using ew) fin hs
  · have hj : (i + (its.toArray.size : Int)).toNat = j := by
      rw [seqIndex_neg (by omega) h4] at h1
      rw [List.size_toArray, ← hl]
      exact Option.some.inj h1
    exact subscriptTail_builtinR (x := w) pl.isList.typeIs slot_list_getitem.lookup
      (wpAny_getItem_list_neg (Q := fun r s' => r = w ∧ EP X pins σ Q r s') pl.isList (by omega) (by rw [List.size_toArray] <;> omega) (by omega) (by rw [hj]; simpa using ew) ⟨rfl, fin⟩) hs
theorem Hy : IxR X (Jh X.K) := by
  intro value slice pins s σ H x y v u Q I rx ry h hs
  obtain ⟨p, xs, i, z, rfl, rfl, hq, he, q⟩ := h
  cases rx
  obtain ⟨t, rfl⟩ := ry
  obtain ⟨its, r, pl, hz⟩ := I.tuple hq
  obtain ⟨j, h1, h2, h3, h4, h5⟩ := tG he
  obtain ⟨w, ew, rw'⟩ := r.get h2
  have hl := r.length
  have hn := nE
  have fin : EP X pins σ Q w s := ⟨z, H, I, rw', q⟩
  exact subscriptTail_builtinR (x := w) pl.typeIs slot_tuple_getitem.lookup
    (getItem_tuple (j := j) (Q := fun r s' => r = w ∧ EP X pins σ Q r s') pl (by omega) (by omega) (by rw [List.size_toArray, ← hl]; exact h1) (by simpa using ew) ⟨rfl, fin⟩) hs
theorem Hz : IxR X Ji := by
  intro value slice pins s σ H x y v u Q I rx ry h hs
  obtain ⟨z, i, c, rfl, rfl, hz, he, q⟩ := h
  obtain ⟨t, rfl⟩ := rx
  obtain ⟨t', rfl⟩ := ry
  obtain ⟨j, h1, h2, h3, h4, h5⟩ := tG he
  have hl : z.cps.toList.length = z.length := by simp [Str.length]
  rw [hl] at h1 h4 h5
  have hn := nE
  exact tail_any (typeIs_str s z t) slot_str_getitem.lookup (getItem_str (c := c) (by
    have e1 : decide (i < -(2 ^ 63 : Int)) = false := decide_eq_false (by omega)
    have e2 : decide (i ≥ 2 ^ 63) = false := decide_eq_false (by omega)
    rw [e1, e2, Bool.or_false]) (by rw [h1]; simpa using h2) ⟨.str ⟨#[c]⟩, H, I.tok _, ⟨_, rfl⟩, q⟩) hs
def rIx (K : PySem.W.Frag) : R2 := fun x y H Q => Jg K x y H Q ∨ Jh K x y H Q ∨ Ji x y H Q
theorem HA : IxR X (rIx X.K) := A4.or (Hy.or Hz)
theorem yi (its : List Value) (n j : Nat) (u : Value) : Obj.mapSeq (·.setIfInBounds j u) { cls := .type "list", data := .seq its.toArray n } = { cls := .type "list", data := .seq (its.set j u).toArray n } := by
  simp [Obj.mapSeq]
theorem Inv.lst {pins : List (Addr × Obj)} {σ : St} {H : Hp} {s : Shared} {p : Addr} {xs : List V} (I : Inv X pins σ H s) (h : H p = some (.lst xs)) :
    ∃ (its : List Value) (n : Nat), aP xs its ∧ s.heap.get? p = some { cls := .type "list", data := .seq its.toArray n } ∧ xs.length ≤ sizeLine := by
  obtain ⟨z, its, n, r, e⟩ := I.hok p _ h
  exact ⟨its, n, r, e, z⟩
theorem Inv.lstUpd {pins : List (Addr × Obj)} {σ : St} {H : Hp} {s : Shared} {p : Addr} {xs ys : List V} {its its' : List Value} {n n' : Nat} {f : Obj → Obj} (I : Inv X pins σ H s) (h : H p = some (.lst xs))
    (ho : s.heap.get? p = some { cls := .type "list", data := .seq its.toArray n }) (hf : f { cls := .type "list", data := .seq its.toArray n } = { cls := .type "list", data := .seq its'.toArray n' }) (r : aP ys its') (hz : ys.length ≤ sizeLine) (t : Nat) :
    Inv X pins σ (upd H p (.lst ys)) { s with heap := s.heap.update p f, toks := t } := by
  have e : (s.heap.update p f).get? p = some { cls := .type "list", data := .seq its'.toArray n' } := by
    rw [Heap.get?_update_self f ho (by rw [hf] <;> rfl), hf]
  refine I.write (x := p) (e := p) (by rw [h]; trivial) (.inl rfl) (fun b u hb q => (Heap.get?_update_other _ _ (Ne.symm hb)).trans q) ⟨_, e⟩ ?_
  exact ⟨hz, its', n', r, e⟩
def Jj : V → V → V → Hp → (Hp → Prop) → Prop := fun o i v H Q => ∃ p xs k j, o = .ref p ∧ i = .int k ∧ H p = some (.lst xs) ∧ ixN xs.length k = some j ∧ Q (upd H p (.lst (xs.set j v)))
theorem DD : IZ X Jj := by
  intro pins s σ H o i v ov iv u Q I ro ri rv h
  obtain ⟨p, xs, k, j, rfl, rfl, hp, hj, q⟩ := h
  cases ro
  obtain ⟨t, rfl⟩ := ri
  obtain ⟨its, n, r, ho, hz⟩ := I.lst hp
  obtain ⟨h1, h2, h3, h4⟩ := A3 hj
  have hl := r.length
  have hn := nE
  have I' : Inv X pins σ (upd H p (.lst (xs.set j v))) { s with heap := s.heap.update p (Obj.mapSeq (·.setIfInBounds j u)) } :=
    I.lstUpd hp ho (yi its n j u) (r.set rv j) (by rw [List.length_set]; exact hz) s.toks
  by_cases h0 : 0 ≤ k
  · have hk : k.toNat = j := by
      rw [seqIndex_of h0 h4] at h1
      exact Option.some.inj h1
    exact PySem.W.ki_setAt ho h0 (by omega) (by rw [List.size_toArray, ← hl]; exact h4) (by rw [hk]; exact ⟨_, I', q⟩)
  · have hk : (k + (its.toArray.size : Int)).toNat = j := by
      rw [seqIndex_neg (by omega) h3] at h1
      rw [List.size_toArray, ← hl]
      exact Option.some.inj h1
    exact PySem.W.ki_setBack ho (by omega) (by rw [List.size_toArray, ← hl]; exact h3) (by omega) (by rw [hk]; exact ⟨_, I', q⟩)
theorem tI (lo hi : Option Int) (n : Nat) : (sliceBounds lo hi none n).1 = ((HT.sIx n 0 lo : Nat) : Int) ∧ (sliceBounds lo hi none n).2.1 = ((HT.sIx n n hi : Nat) : Int) ∧ (sliceBounds lo hi none n).2.2 = 1 := by
  refine ⟨?_, ?_, rfl⟩
  · cases lo with
    | none => simp [sliceBounds, HT.sIx]
    | some i =>
      simp only [sliceBounds, HT.sIx, Option.getD_none, show (1 : Int) > 0 by decide, if_true]
      by_cases h : i < 0
      · simp only [h, if_true] <;> omega
      · simp only [h, if_false] <;> omega
  · cases hi with
    | none => simp [sliceBounds, HT.sIx]
    | some i =>
      simp only [sliceBounds, HT.sIx, Option.getD_none, show (1 : Int) > 0 by decide, if_true]
      by_cases h : i < 0
      · simp only [h, if_true] <;> omega
      · simp only [h, if_false] <;> omega
theorem pK (its : List Value) (lo hi : Option Int) : slicePick its.toArray lo hi none = ((its.drop (HT.sIx its.length 0 lo)).take (HT.sIx its.length its.length hi - HT.sIx its.length 0 lo)).toArray := by
  obtain ⟨h1, h2, h3⟩ := tI lo hi its.toArray.size
  unfold slicePick
  rw [h1, h2, h3]
  simp only [sliceRange_one, pick_run, List.size_toArray] <;> rfl
def Jk (K : PySem.W.Frag) : V → Option Int → Option Int → Hp → VK → Prop := fun x lo hi H Q => ∃ a xs, x = .ref a ∧ SqL K H a xs ∧ ∀ p, H p = none → Q (.ref p) (upd H p (.lst (nJ xs lo hi)))
theorem Fx : SlR X (Jk X.K) := by
  intro pins s σ H x v vl vu lo hi sl Q I rx hs pl pu h
  obtain ⟨a, xs, rfl, hx, q⟩ := h
  cases rx
  obtain ⟨its, r, ht, hz⟩ := I.list hx
  have hlen := r.length
  refine ⟨"list", _, slot_list_getitem.lookup, ht.isList.typeIs, ?_⟩
  refine wpAny_getItem_list_slice ht.isList hs pl pu .none (by simp) ?_ (by rw [List.size_toArray] <;> omega)
  rw [pK, ← hlen]
  refine ⟨.ref s.heap.objs.size, _, I.laid (t' := s.toks) (o := .lst (nJ xs lo hi)) (fun b ob q => Heap.get?_push_of_some _ q) (Nat.le_refl _) ?_, rfl, q _ (I.hok.fresh (Nat.le_refl _))⟩
  exact ⟨Nat.le_trans (mx xs lo hi) hz, _, 0, (r.drop (HT.sIx xs.length 0 lo)).take (HT.sIx xs.length xs.length hi - HT.sIx xs.length 0 lo), Heap.get?_push_size _ rfl⟩
def gU : V → Bool
  | .non => true
  | .bl _ => true
  | .int _ => true
  | .str _ => true
  | _ => false
def eqV : V → V → Bool
  | .non, .non => true
  | .bl a, .bl b => a == b
  | .bl a, .int b => (if a then 1 else 0) == b
  | .int a, .bl b => a == (if b then 1 else 0)
  | .int a, .int b => a == b
  | .str a, .str b => a == b
  | _, _ => false
theorem HB {A : Around} {s : Shared} {y x : V} {u v : Value} (ry : bK y u) (rx : bK x v) (fy : gU y = true) (fx : gU x = true) : SeqAt.EqAt A s u v (eqV y x) := by
  cases y with
  | non =>
    cases ry
    cases x with
    | non => cases rx; exact SeqAt.EqAt.same _
    | bl b => cases rx; exact SeqAt.EqAt.none_bool b
    | int b => obtain ⟨t, rfl⟩ := rx; exact SeqAt.EqAt.none_int b t
    | str b => obtain ⟨t, rfl⟩ := rx; exact SeqAt.EqAt.none_str b t
    | _ => exact absurd (show false = true from fx) Bool.false_ne_true
  | bl a =>
    cases ry
    cases x with
    | non => cases rx; exact SeqAt.EqAt.bool_none a
    | bl b => cases rx; exact SeqAt.EqAt.bool_bool a b
    | int b => obtain ⟨t, rfl⟩ := rx; exact SeqAt.EqAt.bool_int a b t
    | str b => obtain ⟨t, rfl⟩ := rx; exact SeqAt.EqAt.bool_str a b t
    | _ => exact absurd (show false = true from fx) Bool.false_ne_true
  | int a =>
    obtain ⟨t', rfl⟩ := ry
    cases x with
    | non => cases rx; exact SeqAt.EqAt.int_none a t'
    | bl b => cases rx; exact SeqAt.EqAt.int_bool a t' b
    | int b => obtain ⟨t, rfl⟩ := rx; exact SeqAt.EqAt.int_int a t' b t
    | str b => obtain ⟨t, rfl⟩ := rx; exact SeqAt.EqAt.int_str a t' b t
    | _ => exact absurd (show false = true from fx) Bool.false_ne_true
  | str a =>
    obtain ⟨t', rfl⟩ := ry
    cases x with
    | non => cases rx; exact SeqAt.EqAt.str_none a t'
    | bl b => cases rx; exact SeqAt.EqAt.str_bool a t' b
    | int b => obtain ⟨t, rfl⟩ := rx; exact SeqAt.EqAt.str_int a t' b t
    | str b => obtain ⟨t, rfl⟩ := rx; exact SeqAt.EqAt.str_str a t' b t
    | _ => exact absurd (show false = true from fx) Bool.false_ne_true
  | _ => exact absurd (show false = true from fy) Bool.false_ne_true
def eqU (x : V) (u : Value) : Bool := match u with
  | .none => eqV .non x
  | .bool b => eqV (.bl b) x
  | .int i _ => eqV (.int i) x
  | .str z _ => eqV (.str z) x
  | _ => false
theorem yj {x y : V} {u : Value} (r : bK y u) (f : gU y = true) : eqU x u = eqV y x := by
  cases y with
  | non => cases r; rfl
  | bl b => cases r; rfl
  | int i => obtain ⟨t, rfl⟩ := r; rfl
  | str z => obtain ⟨t, rfl⟩ := r; rfl
  | _ => exact absurd (show false = true from f) Bool.false_ne_true
theorem tJ {x : V} : ∀ {xs : List V} {us : List Value}, aP xs us → xs.all gU = true → us.any (eqU x) = xs.any fun y => eqV y x
  | _, _, .nil, _ => rfl
  | y :: xs, u :: us, .cons r t, f => by
    rw [List.all_cons, Bool.and_eq_true] at f
    rw [List.any_cons, List.any_cons, yj r f.1, tJ t f.2]
theorem kn {A : Around} {s : Shared} {x : V} {v : Value} (rx : bK x v) (fx : gU x = true) : ∀ {xs : List V} {us : List Value}, aP xs us → xs.all gU = true → ∀ u ∈ us, SeqAt.EqAt A s u v (eqU x u)
  | _, _, .nil, _ => fun u hu => by cases hu
  | y :: xs, u :: us, .cons r t, f => fun u' hu => by
    rw [List.all_cons, Bool.and_eq_true] at f
    rcases List.mem_cons.mp hu with rfl | hu
    · rw [yj r f.1]; exact HB r rx f.1 fx
    · exact kn rx fx t f.2 u' hu
def inV (x : V) (xs : List V) : Bool := xs.any fun y => eqV y x
def rIn (K : PySem.W.Frag) (neg : Bool) : R2 := fun x y H Q => ∃ p xs, y = .ref p ∧ (SqL K H p xs ∨ SqT K H p xs) ∧ gU x = true ∧ xs.all gU = true ∧ Q (.bl (if neg then !inV x xs else inV x xs)) H
theorem ic : OpR X (compareOp .NotIn) (rIn X.K true) := by
  intro pins s σ H x y v u Q I rx ry h
  obtain ⟨p, xs, rfl, hq, fx, fs, q⟩ := h
  cases ry
  rcases hq with hq | hq
  · obtain ⟨its, r, pl, hz⟩ := I.list hq
    refine SeqAt.notIn_listAt (eqU x) pl.isList (fun w hw => kn rx fx r fs w (by simpa using hw)) ⟨.bl _, H, I, rfl, ?_⟩
    rw [show its.toArray.any (eqU x) = its.any (eqU x) by simp, tJ r fs]
    exact q
  · obtain ⟨its, r, pl, hz⟩ := I.tuple hq
    refine SeqAt.notIn_tupleAt (eqU x) pl (fun w hw => kn rx fx r fs w (by simpa using hw)) ⟨.bl _, H, I, rfl, ?_⟩
    rw [show its.toArray.any (eqU x) = its.any (eqU x) by simp, tJ r fs]
    exact q
theorem tK : gp X (.builtin "len") (fun xs H Q => ∃ p ys, xs = [.ref p] ∧ (SqL X.K H p ys ∨ SqT X.K H p ys) ∧ Q (.int ys.length) H) := by
  intro pins s σ H xs us Q I r h
  obtain ⟨p, ys, rfl, hq, q⟩ := h
  obtain ⟨u, rfl, rx⟩ := vL r
  cases rx
  have hn := nE
  rcases hq with hq | hq
  · obtain ⟨its, r', pl, hz⟩ := I.list hq
    have hlen := r'.length
    exact Calls.call_len_list pl.isList (by simp only [List.size_toArray] <;> omega) ⟨.int ys.length, H, I.tok _, ⟨s.toks + 1, by rw [List.size_toArray, hlen]⟩, q⟩
  · obtain ⟨its, r', pl, hz⟩ := I.tuple hq
    have hlen := r'.length
    exact len_tuple pl (by simp only [List.size_toArray] <;> omega) ⟨.int ys.length, H, I.tok _, ⟨s.toks + 1, by rw [List.size_toArray, hlen]⟩, q⟩
theorem tL : gp X (.type "list") (fun xs H Q => ∃ p ys, xs = [.ref p] ∧ (SqL X.K H p ys ∨ SqT X.K H p ys) ∧ ∀ l, H l = none → Q (.ref l) (upd H l (.lst ys))) := by
  intro pins s σ H xs us Q I r h
  obtain ⟨p, ys, rfl, hq, q⟩ := h
  obtain ⟨u, rfl, rx⟩ := vL r
  cases rx
  have fin : ∀ (its : List Value), aP ys its → ys.length ≤ sizeLine → ∀ (h' : Heap) (c' : Nat), (∀ b o', s.heap.get? b = some o' → h'.get? b = some o') →
      h'.get? s.heap.objs.size = some { cls := .type "list", dict := none, data := .seq its.toArray c', slots := #[] } → EP X pins σ Q (.ref s.heap.objs.size) { s with heap := h' } := fun its r' hz h' c' kp e =>
    ⟨.ref s.heap.objs.size, _, I.laid (t' := s.toks) kp (Nat.le_refl _) (show eN X.prog X.w _ h' _ (.lst ys) from ⟨hz, its, c', r', e⟩), rfl, q _ (I.hok.fresh (Nat.le_refl _))⟩
  rcases hq with hq | hq
  · obtain ⟨its, r', pl, hz⟩ := I.list hq
    have hlen := r'.length
    obtain ⟨o, ho, hc, n, hd⟩ := pl.isList
    exact call_list_seq p (.inl rfl) ho hc hd (fun h' c' kp e => fin its r' hz h' c' kp e) (by simp only [List.size_toArray] <;> omega)
  · obtain ⟨its, r', pl, hz⟩ := I.tuple hq
    have hlen := r'.length
    obtain ⟨o, ho, hc, n, hd⟩ := pl
    exact call_list_seq p (.inr rfl) ho hc hd (fun h' c' kp e => fin its r' hz h' c' kp e) (by simp only [List.size_toArray] <;> omega)
theorem pL : gp X (.type "tuple") (fun xs H Q => ∃ p ys, xs = [.ref p] ∧ ((SqL X.K H p ys ∧ ∀ l, H l = none → Q (.ref l) (upd H l (.tup ys))) ∨ (SqT X.K H p ys ∧ Q (.ref p) H))) := by
  intro pins s σ H xs us Q I r h
  obtain ⟨p, ys, rfl, h⟩ := h
  obtain ⟨u, rfl, rx⟩ := vL r
  cases rx
  rcases h with ⟨hq, q⟩ | ⟨hq, q⟩
  · obtain ⟨its, r', pl, hz⟩ := I.list hq
    have hlen := r'.length
    refine call_tuple_list pl.isList (fun h' kp => ?_) (by simp only [List.size_toArray] <;> omega)
    have I1 : Inv X pins σ H { s with heap := h' } := I.kept (t' := s.toks) kp
    have I2 : Inv X pins σ (upd H h'.objs.size (.tup ys)) { s with heap := h'.push { cls := .type "tuple", data := .seq its.toArray } } :=
      I1.laid (t' := s.toks) (fun b o e => Heap.get?_push_of_some _ e) (Nat.le_refl _) (show eN X.prog X.w _ _ _ (.tup ys) from ⟨hz, its, r', IsTup.new _ _⟩)
    exact ⟨.ref h'.objs.size, _, I2, rfl, q _ (I1.hok.fresh (Nat.le_refl _))⟩
  · obtain ⟨its, r', pl, hz⟩ := I.tuple hq
    exact call_tuple_same pl ⟨.ref p, H, I, rfl, q⟩
def tyV (K : PySem.W.Frag) (T : String) (x : V) (H : Hp) : Prop := match x with
  | .str _ => T = "str"
  | .int _ => T = "int"
  | .ref p => (T = "list" ∧ ∃ xs, SqL K H p xs) ∨ (T = "tuple" ∧ ∃ o, K.lookup p = some o ∧ o.cls = .type "tuple" ∧ o.dict = none) ∨
      (T = "dict" ∧ ((∃ kvs, H p = some (.dK kvs)) ∨ ∃ kvs, H p = some (.dT kvs))) ∨ (T = "set" ∧ ∃ S n, H p = some (.set S n))
  | _ => False
theorem HC {pins : List (Addr × Obj)} {σ : St} {H : Hp} {s : Shared} {T : String} {x : V} {v : Value} (I : Inv X pins σ H s) (r : bK x v) (ty : tyV X.K T x H) :
    s.TypeIs v T ∧ ∀ a, v = .ref a → ∃ ob, s.heap.get? a = some ob ∧ ob.dict = none := by
  cases x with
  | str z =>
    obtain ⟨t, rfl⟩ := r
    cases (show T = "str" from ty)
    exact ⟨typeIs_str s z t, fun _ e => nomatch e⟩
  | int i =>
    obtain ⟨t, rfl⟩ := r
    cases (show T = "int" from ty)
    exact ⟨typeIs_int s i t, fun _ e => nomatch e⟩
  | ref p =>
    cases r
    rcases ty with ⟨rfl, xs, hq⟩ | ⟨rfl, o, hk, hc, hd⟩ | ⟨rfl, hk⟩ | ⟨rfl, S, n, hk⟩
    · obtain ⟨its, _, pl, _⟩ := I.list hq
      refine ⟨pl.isList.typeIs, fun a e => ?_⟩
      cases e
      obtain ⟨o, n, e, c, hd, _⟩ := pl
      exact ⟨o, e, hd⟩
    · refine ⟨⟨o, I.kIn p o hk, hc⟩, fun a e => ?_⟩
      cases e
      exact ⟨o, I.kIn _ o hk, hd⟩
    · have z : ∃ o, s.heap.get? p = some o ∧ o.ExactDict := by
        rcases hk with ⟨kvs, hk⟩ | ⟨kvs, hk⟩
        · obtain ⟨_, _, _, _, o, _, _, e, ex, _⟩ := I.hok p _ hk
          exact ⟨o, e, ex⟩
        · obtain ⟨_, _, _, _, o, _, _, e, ex, _⟩ := I.hok p _ hk
          exact ⟨o, e, ex⟩
      obtain ⟨o, e, ex⟩ := z
      refine ⟨⟨o, e, ex.1⟩, fun a e2 => ?_⟩
      cases e2
      exact ⟨o, e, ex.2.1⟩
    · obtain ⟨o, _, _, _, e, ex, _⟩ := I.hok p _ hk
      refine ⟨⟨o, e, ex.1⟩, fun a e2 => ?_⟩
      cases e2
      exact ⟨o, e, ex.2.1⟩
  | _ => exact False.elim ty
def tBM (K : PySem.W.Frag) (T : String) (r : V → List V → Hp → VK → Prop) (to : TE) (t : TA) : TE := fun σ H Q => to σ H fun x H1 => tyV K T x H1 ∧ t σ H1 fun xs H2 => r x xs H2 Q
variable {o e : Expr} {es : List Expr} {to : TE} {t : TA} {name : Str} {apos cpos : Pos} {T id : String} {r : V → List V → Hp → VK → Prop}
theorem A5 (pa : PlainAttrs T) (slot : Slot T name id) (hty : typeOf (.builtin id) = pure (.type "method_descriptor")) (hm : MtR X id r) (ho : PE X o to) (ha : PA X (e :: es) t)
    (hbase : attributeBase o name X.env (eval o X.env) = eval o X.env := by rfl)
    (hfew : ((backTo cpos (starEach (e :: es) X.env)).all (fun x => !x.1) && (backToKw cpos (keywordEach [] X.env)).all (fun x => x.1.isSome)
      && decide ((e :: es).length + ([] : List Keyword).length + (if ([] : List Keyword).isEmpty then 0 else 1) < 30)) = true := by rfl)
    (hline : (apos.endLine == cpos.line) = true := by rfl) (hs : starEach (e :: es) X.env = (false, eval e X.env) :: starEach es X.env := by rfl) (hplain : (backTo cpos (starEach es X.env)).any (·.1) = false := by rfl) :
    PE X (.Call (.Attribute o name apos) (e :: es) [] cpos) (tBM X.K T r to t) := by
  intro pins s σ H Q I h
  refine wpAny_Call_method_late hbase hfew hline rfl (thn (ho pins s σ H _ I h) fun v s1 ⟨x, H1, I1, r1, ty, q1⟩ => ?_)
  obtain ⟨h1, h2⟩ := HC I1 r1 ty
  refine ⟨T, id, pa, slot, hty, h1, h2, ?_⟩
  have hA := ha cpos pins s1 σ H1 _ I1 q1
  rw [hs] at hA ⊢
  refine Calls.callWith_builtin (by show (false || (backTo cpos (starEach es X.env)).any (·.1)) = false; rw [hplain] <;> rfl) (Calls.evalArgs_plain ?_)
  exact thn hA fun us s2 ⟨vs, H2, I2, r2, q2⟩ => hm pins s2 σ H2 x vs v us Q I2 r1 r2 q2
end
end L2
namespace L2
open PySem PySem.Spec PyProof.Rows
def MtM (X : Cx) (id : String) (r : V → List V → Hp → VK → Prop) : Prop :=
  ∀ (pins : List (Addr × Obj)) (s : Shared) (σ : St) (H : Hp) (x : V) (xs : List V) (v : Value) (us : List Value) (Q : VK), Inv X pins σ H s → bK x v → aP xs us → r x xs H Q →
    wpAny (model X.prog X.w) X.A (call (.builtin id) (v :: us)) (EP X pins σ Q) X.xe s
theorem aP.one : ∀ {x : V} {us : List Value}, aP [x] us → ∃ u, us = [u] ∧ bK x u
  | _, _, .cons r .nil => ⟨_, rfl, r⟩
theorem aP.two : ∀ {x y : V} {us : List Value}, aP [x, y] us → ∃ u v, us = [u, v] ∧ bK x u ∧ bK y v
  | _, _, _, .cons r (.cons q .nil) => ⟨_, _, rfl, r, q⟩
theorem aP.reverse {xs : List V} {us : List Value} (h : aP xs us) : aP xs.reverse us.reverse := by
  induction h with
  | nil => exact .nil
  | cons r t ih => rw [List.reverse_cons, List.reverse_cons]; exact aP.append ih (.cons r .nil)
theorem aP.rep {xs : List V} {us : List Value} (h : aP xs us) : ∀ k : Nat, aP (List.replicate k xs).flatten (List.replicate k us).flatten
  | 0 => .nil
  | k + 1 => by
    rw [List.replicate_succ, List.replicate_succ, List.flatten_cons, List.flatten_cons]
    exact aP.append h (aP.rep h k)
theorem rT (its : List Value) : ∀ (k : Nat) (acc : List Value),
    List.foldl (fun x1 x2 => x1 ++ x2) acc.toArray (List.replicate k its.toArray) = (acc ++ (List.replicate k its).flatten).toArray
  | 0, acc => by simp
  | k + 1, acc => by
    have e : acc.toArray ++ its.toArray = (acc ++ its).toArray := by simp
    have e2 : (acc ++ its) ++ (List.replicate k its).flatten = acc ++ (List.replicate (k + 1) its).flatten := by
      rw [List.replicate_succ, List.flatten_cons, List.append_assoc]
    rw [← e2, ← rT its k (acc ++ its), ← e, List.replicate_succ, List.foldl_cons]
section
variable {X : Cx} {pins : List (Addr × Obj)} {σ : St} {H : Hp} {s : Shared} {l b : Addr} {xs ys zs : List V}
theorem Inv.lset {its its' : List Value} {n : Nat} {f : Array Value → Array Value} {t' : Nat} (I : Inv X pins σ H s) (hH : H l = some (.lst xs))
    (e : s.heap.get? l = some { cls := .type "list", data := .seq its.toArray n }) (hf : f its.toArray = its'.toArray) (hv : aP ys its') (hz : ys.length ≤ sizeLine) :
    Inv X pins σ (upd H l (.lst ys)) { s with heap := s.heap.update l (Obj.mapSeq f), toks := t' } := by
  have q := PySem.IsL.update e f
  rw [hf] at q
  refine I.write (x := l) (e := l) (by rw [hH]; exact trivial) (.inl rfl) (fun b' u hb hu => (Heap.get?_update_other s.heap (Obj.mapSeq f) (Ne.symm hb)).trans hu) ⟨_, q⟩ ?_
  exact ⟨hz, its', _, hv, q⟩
theorem Inv.lnew {its : List Value} {t' : Nat} (I : Inv X pins σ H s) (hv : aP ys its) (hz : ys.length ≤ sizeLine) :
    Inv X pins σ (upd H s.heap.objs.size (.lst ys)) { s with heap := s.heap.push { cls := .type "list", data := .seq its.toArray }, toks := t' } :=
  I.laid (fun _ _ q => Heap.get?_push_of_some _ q) (Nat.le_refl _) ⟨hz, its, 0, hv, Heap.get?_push_size _ rfl⟩
theorem Inv.fresh (I : Inv X pins σ H s) : H s.heap.objs.size = none := I.hok.fresh (Nat.le_refl _)
theorem Inv.lstM (I : Inv X pins σ H s) (hH : H l = some (.lst xs)) : xs.length ≤ sizeLine ∧ ∃ (its : List Value) (n : Nat), aP xs its ∧ xs.length = its.length ∧ s.heap.get? l = some { cls := .type "list", data := .seq its.toArray n } := by
  obtain ⟨z, its, n, r, e⟩ := I.hok l _ hH
  exact ⟨z, its, n, r, r.length, e⟩
end
section
variable {X : Cx}
def Fy : V → List V → Hp → VK → Prop := fun x vs H Q => ∃ l xs y, x = .ref l ∧ vs = [y] ∧ H l = some (.lst xs) ∧ xs.length < sizeLine ∧ Q .non (upd H l (.lst (xs ++ [y])))
theorem rV : MtM X "list.append" Fy := by
  intro pins s σ H x vs v us Q I rx rv h
  obtain ⟨l, xs, y, rfl, rfl, hH, hz, q⟩ := h
  cases rx
  obtain ⟨u, rfl, ru⟩ := rv.one
  obtain ⟨z, its, n, r, hl, e⟩ := I.lstM hH
  refine call_meets F.slot_list_append ⟨_, e, rfl⟩ F.entry_list_append (F.args_list_append_2 _ _) (PySem.list_append l its.toArray n u (by rw [List.size_toArray]; omega)) ⟨e, ?_⟩
  refine ⟨.non, _, I.lset (its' := its ++ [u]) hH e (by simp) (r.append (.cons ru .nil)) ?_, rfl, q⟩
  rw [List.length_append, List.length_singleton]
  omega
def J3 : R2 := fun x y H Q => ∃ l b xs zs, x = .ref l ∧ y = .ref b ∧ H l = some (.lst xs) ∧ H b = some (.lst zs) ∧ xs.length + zs.length ≤ sizeLine ∧ ∀ p, H p = none → Q (.ref p) (upd H p (.lst (xs ++ zs)))
theorem HE : OpR X (binaryOp .Add) J3 := by
  intro pins s σ H x y v u Q I rx ry h
  obtain ⟨l, b, xs, zs, rfl, rfl, hH, hB, hz, q⟩ := h
  cases rx
  cases ry
  obtain ⟨z, its, n, r, hl, e⟩ := I.lstM hH
  obtain ⟨z2, its2, n2, r2, hl2, e2⟩ := I.lstM hB
  refine PySem.P.add_list e e2 ?_ (by rw [List.size_toArray, List.size_toArray]; omega)
  have ea : its.toArray ++ its2.toArray = (its ++ its2).toArray := by simp
  rw [ea]
  exact ⟨.ref _, _, I.lnew (t' := s.toks) (r.append r2) (by rw [List.length_append]; omega), rfl, q _ I.fresh⟩
theorem Fz {α : Type} (xs : List α) (k : Nat) : (List.replicate k xs).flatten.length = k * xs.length := by
  induction k with
  | zero => simp
  | succ k ih => rw [List.replicate_succ, List.flatten_cons, List.length_append, ih, Nat.succ_mul, Nat.add_comm]
end
section
variable {prog : Program} {w : World} {A : Around} {E : Value → Shared → Prop} {s : Shared}
end
section
variable {X : Cx}
end
end L2
namespace Att
open PySem PySem.W PySem.Calls PyProof.Rows
theorem mX {P : Params} {h : Heap} : ∀ (ns : List Int) (vs : List Value), WellAll P h vs (ns.map WData.int) → IntsAre vs ns := by
  intro ns
  induction ns with
  | nil =>
    intro vs w
    rw [List.map_nil] at w
    cases w
    exact .nil
  | cons n ns ih =>
    intro vs w
    rw [List.map_cons] at w
    cases w with
    | cons a b =>
      cases a
      exact .cons _ _ (ih _ b)
theorem BW {l : OpenLaw} {n : Nat} (hn : l.most = some n) {P : Params} {h : Heap} {args : List WData} {vals : List Value}
    (hpre : l.row.toRowW.claim.pre args = true) (hwl : WellAll P h vals args) :
    ∃ a vs ns, vals = [Value.ref a] ∧ args = [WData.list (ns.map WData.int)] ∧ h.get? a = some { cls := .type "list", data := .seq vs.toArray } ∧ IntsAre vs ns ∧ ns.length ≤ n := by
  have hsh : WShape.hasAll [] args [.list .int] = true := (pre_splitW hpre).1
  have hc : l.pre.holds [] { args := args } = true := (pre_splitW hpre).2
  obtain ⟨d, r, rfl, h1, h2⟩ := hasAllW_cons hsh
  obtain rfl := hasAllW_nil h2
  obtain ⟨xs, rfl, h3⟩ := hasW_list h1
  obtain ⟨ns, rfl⟩ := items_int h3
  have hlen : ns.length ≤ n := by
    unfold OpenLaw.pre at hc
    have h4 : (WTm.not (.lt (.lit (.int (n : Int))) (.len (.arg 0)))).holds [] { args := [.list (ns.map .int)] } = true := by
      have h4 := (holds_andW hc).1
      rw [hn] at h4
      exact h4
    have h5 := condW_of h4 (w_not (w_lt w_lit (w_len_list (w_arg rfl))))
    rw [List.length_map] at h5
    refine Nat.le_of_not_lt fun q => ?_
    have q' : (n : Int) < ((ns.length : Nat) : Int) := by omega
    first
      | (rw [decide_eq_true q'] at h5; exact absurd h5 (by decide))
      | (simp at h5; omega)
  cases hwl with
  | cons w1 w2 =>
    cases w2
    cases w1 with
    | list ho hall => exact ⟨_, _, ns, rfl, rfl, ho, mX ns _ hall, hlen⟩
theorem BX (l : OpenLaw) (args : List WData) : l.row.toRowW.claim.post args (.bool true) args = true :=
  postW_of (r := l.row.toRowW) (X := (true == true))
    (show WShape.has [] (.bool true) .bool = true by first | rfl | decide | simp [WShape.has, WShape.arms, WShape.armsAll])
    (show (WTm.eq .res (.lit (.bool true))).value [] { args := args, res := some (.bool true), after := args } = some (.bool (true == true)) from w_eq_bool (w_res rfl) w_lit) rfl
theorem attach_call {l : OpenLaw} {n : Nat} {q : Program} {loose : List Str} {XP : (Str → Option Value) → Heap → Prop} {YP : World → Heap → Prop} {d : DefRec}
    (hn : l.most = some n) (hdf : d.params.defaults = [])
    (call : ∀ (w : World) (s₀ s₁ : Shared) (mg mb : Str → Option Value) (fa : Addr) (o : Obj) (pm cd doc : Value) (a : Addr) (vs : List Value) (ns : List Int),
      Ground q loose [] XP w s₀ mg mb s₁.heap → YP w s₁.heap →
      s₁.heap.get? fa = some o → o.data = .func (docDef d.name d.params d.body d.scope pm cd doc) → s₁.heap.CodeRec cd d.name → mg d.name = some (.ref fa) →
      s₁.heap.get? a = some { cls := .type "list", data := .seq vs.toArray } → IntsAre vs ns → ns.length ≤ n → s₁.gens = #[] →
      codeAny (model l.prog w) callerA (.call (.ref fa) ⟨[.ref a], []⟩) (fun r s' => r = .ok (.ret (.bool true)) ∧ OldK s₁.heap s'.heap ∧ s'.os = s₁.os ∧ AllBare s'.gens) s₁) :
    WalkO q loose XP YP l.row.toRowW d [] (fun f vs => PySem.call f vs) := by
  intro w s₀ s₁ mg mb G Y fa o pm cd doc dV kV ho hd hcd hD hmg hg args vals as hpre hlay hrd hwl hlo
  obtain rfl : dV = .none := Dflts.none hD hdf
  obtain rfl : kV = .none := Dflts.noKw hD
  obtain ⟨a, vs, ns, rfl, rfl, hobj, hints, hlen⟩ := BW hn hpre hwl
  refine enter_call (codeAny_mono (call w s₀ s₁ mg mb fa o pm cd doc a vs ns G Y ho (fd_plain hd) hcd hmg hobj hints hlen hg) fun r s' hq => ?_)
  obtain ⟨rfl, h2, h3, h4⟩ := hq
  exact ⟨.inl ⟨.bool true, .bool true, [], rfl, fun _ => rfl, .bool true, BX l _, fun _ => ⟨List.Pairwise.nil, fun _ hm => (nomatch hm)⟩⟩, h2, h3, h4⟩
section
variable {prog : Program} {w : World} {A : Around} {E : Value → Shared → Prop} {s : Shared} {K : Frag}
def noObjs (h : Heap) : Heap := { h with objs := #[] }
theorem noObjs_get (h : Heap) (b : Addr) : (noObjs h).get? b = none := by
  cases e : (noObjs h).get? b with
  | none => rfl
  | some o => exact absurd (Heap.lt_size e) (Nat.not_lt_zero _)
def ledger (h : Heap) (L d : Addr) : List (Addr × Obj) := (List.range h.objs.size).filterMap fun a => if a = L ∨ a = d then none else (h.get? a).map fun o => (a, o)
theorem mem_ledger {h : Heap} {L d a : Addr} {o : Obj} : (a, o) ∈ ledger h L d ↔ a ≠ L ∧ a ≠ d ∧ h.get? a = some o := by
  unfold ledger
  rw [List.mem_filterMap]
  constructor
  · rintro ⟨b, _, e⟩
    split at e
    · cases e
    · rename_i hb
      obtain ⟨o', ho, e'⟩ := Option.map_eq_some_iff.mp e
      cases e'
      exact ⟨fun q => hb (.inl q), fun q => hb (.inr q), ho⟩
  · rintro ⟨n1, n2, ho⟩
    refine ⟨a, List.mem_range.mpr (Heap.lt_size ho), ?_⟩
    rw [if_neg (show ¬ (a = L ∨ a = d) from fun q => q.elim n1 n2), ho] <;> rfl
theorem fr_all {h : Heap} {L : Addr} {m : Str → Option Value} (n : h.Ns L m) : Fr (noObjs h) L h m :=
  ⟨n, fun b o e => (by rw [noObjs_get] at e; cases e), Nat.zero_le _⟩
end
end Att
namespace L2
open PySem PySem.Spec PyProof.Rows
theorem rW : ∀ {vs : List Value} {ns : List Int}, IntsAre vs ns → aP (ns.map V.int) vs
  | _, _, .nil => .nil
  | _, _, .cons n t h => .cons ⟨t, rfl⟩ (rW h)
def HF (H : Hp) : Prop := ∀ b, H b = none ∨ ∃ o xs, H b = some (.frz o (.lst xs))
theorem DE {P : Program} {w : World} {K : PySem.W.Frag} {mg mb : Str → Option Value} {CX : CXT} {k : Nat} {fa a : Addr} {fd : FuncData} {x : Str} {sp : Sp} {s₁ : Shared} {vs : List Value} {ns : List Int}
    (KX : K.In s₁.heap) (hns : s₁.heap.Ns mainGlobals mg) (hb : s₁.heap.Ns builtinsNs mb) (hbb : ∀ x : Str, x ≠ "__name__" → mb x = bootBuiltins x) (hlim : s₁.heap.NoLimit) (hg : s₁.gens = #[])
    (ha : s₁.heap.get? a = some { cls := .type "list", data := .seq vs.toArray }) (hi : IntsAre vs ns) (hl : ns.length ≤ sizeLine) (hr : gE k callerA)
    (F : ∀ base : Heap, K.In base → base.Ns mainGlobals mg → ce P w K mg base CX k fa fd [x] sp) (hbind : ∀ (s : Shared) (u : Value), BindsTo s fd ⟨[u], []⟩ [(x, u)])
    (hsp : ∀ H : Hp, HF H → SqL K H a (ns.map V.int) → sp [.ref a] H (fun v _ => v = .bl true) fun _ _ _ => False)
    (hCX : ∀ H e s', CX [] H s₁ (fun _ _ _ => False) e s' → False) :
    codeAny (model P w) callerA (.call (.ref fa) ⟨[.ref a], []⟩) (fun r s' => r = .ok (.ret (.bool true)) ∧ OldK s₁.heap s'.heap ∧ s'.os = s₁.os ∧ AllBare s'.gens) s₁ := by
  have rv := rW hi
  have lenV := hi.length
  have core : ∀ H : Hp, HF H → SqL K H a (ns.map V.int) → HOk P w H s₁.heap → (∀ b, H b ≠ none → b = a) → (H a ≠ none → K.lookup a = none) →
      codeAny (model P w) callerA (.call (.ref fa) ⟨[.ref a], []⟩) (fun r s' => r = .ok (.ret (.bool true)) ∧ OldK s₁.heap s'.heap ∧ s'.os = s₁.os ∧ AllBare s'.gens) s₁ := by
    intro H hO hS hok hA hK
    have base_of : ∀ {b : Addr} {o : Obj}, s₁.heap.get? b = some o → H b = none → (tq s₁.heap H).get? b = some o := fun e n => Dm e n
    have noA : ∀ {b : Addr} {o : Obj} {es : Array DictEntry} {ep : Nat}, s₁.heap.get? b = some o → o.data = .dict es ep → H b = none := fun {b o es ep} e d => by
      cases q : H b with
      | none => rfl
      | some u =>
        have e' : b = a := hA b (by rw [q]; simp)
        subst e'
        rw [ha] at e; cases e
        have d' : Data.seq vs.toArray _ = Data.dict es ep := d
        cases d'
    have nsK : ∀ {b : Addr} {m : Str → Option Value}, s₁.heap.Ns b m → (tq s₁.heap H).Ns b m := fun {b m} ⟨o, es, ep, e, d, r⟩ => ⟨o, es, ep, base_of e (noA e d), d, r⟩
    have hKb : K.In (tq s₁.heap H) := fun b o e => base_of (KX b o e) (by
      cases q : H b with
      | none => rfl
      | some u =>
        have e' : b = a := hA b (by rw [q]; simp)
        subst e'
        rw [hK (by rw [q]; simp)] at e; cases e)
    have hM : Mod K mg (tq s₁.heap H) := ⟨hKb, nsK hns, ⟨mb, nsK hb, hbb⟩, let ⟨mc, h1, h2⟩ := hlim; ⟨mc, nsK h1, h2⟩⟩
    have e0 : Fs P w K mg (tq s₁.heap H) callerA [] s₁ H := ⟨rfl, hM, fun b o e => Fc e, Nat.le_of_eq (BQ _ _), trivial, fun b hb => absurd (show b ∈ ([] : List Addr) from hb) (by simp), hok, .of_eq hg⟩
    refine codeAny_mono ((F _ hKb (nsK hns)).run callerA [] s₁ H ⟨[.ref a], []⟩ [.ref a] [.ref a] _ _ hr e0 (hbind s₁ (.ref a)) (.cons rfl .nil) (hsp H hO hS)) fun r s' h => ?_
    cases r with
    | error e => exact (hCX H e s' h).elim
    | ok fl =>
      cases fl with
      | next => exact False.elim h
      | brk => exact False.elim h
      | cont => exact False.elim h
      | ret u =>
        obtain ⟨v, H', os, bare, un, hok', r', q⟩ := h
        have q' : v = .bl true := q
        subst q'
        obtain rfl : u = Value.bool true := r'
        refine ⟨rfl, OldK.of_keep fun b o e => ?_, os, bare⟩
        cases q : H b with
        | none => exact un.keep b o e q (by intro z; exact absurd (show b ∈ ([] : List Addr) from z) (by simp)) (by simp)
        | some u =>
          rcases hO b with z | ⟨ob, xs, z⟩
          · rw [q] at z; cases z
          · have z2 := un.frzs b ob _ z
            obtain ⟨e1, _⟩ := hok b _ z
            obtain ⟨e2, _⟩ := hok' b _ z2
            rw [e] at e1; cases e1
            exact e2
  cases hk : K.lookup a with
  | some o =>
    have e := KX a o hk
    rw [ha] at e
    cases e
    refine core (fun _ => none) (fun _ => .inl rfl) (.inr ⟨_, vs.toArray, _, hk, rfl, rfl, rfl, by rw [List.size_toArray, lenV]; exact hl, by simpa using rv⟩) (fun b u z => by have z' : (none : Option HO) = some u := z; cases z') (fun b z => absurd rfl z) fun z => absurd rfl z
  | none =>
    refine core (fun b => if b = a then some (.frz { cls := .type "list", data := .seq vs.toArray } (.lst (ns.map V.int))) else none) (fun b => ?_) (.inl (.inr ⟨{ cls := .type "list", data := .seq vs.toArray }, if_pos rfl⟩)) (fun b u z => ?_) (fun b z => ?_) fun _ => hk
    · by_cases hb : b = a
      · exact .inr ⟨_, _, if_pos hb⟩
      · exact .inl (if_neg hb)
    · by_cases hb : b = a
      · have z' := (if_pos hb).symm.trans z
        cases z'
        subst hb
        exact ⟨ha, by rw [List.length_map]; exact hl, vs, _, rv, ha⟩
      · have z' := (if_neg hb).symm.trans z
        cases z'
    · by_cases hb : b = a
      · exact hb
      · exact absurd (if_neg hb) z
end L2
namespace L2
open PySem PySem.Spec PyProof.Rows
theorem FA {l : PySem.W.OpenLaw} {n k : Nat} {q : Program} {loose : List Str} {XP : (Str → Option Value) → Heap → Prop} {YP : World → Heap → Prop} {d : DefRec} {K : Params → PySem.W.Frag} {CX : World → CXT} {sp : World → Sp} {x : Str}
    (hn : l.most = some n) (hn2 : n ≤ sizeLine) (hdf : d.params.defaults = []) (hr : gE k callerA)
    (hY : ∀ (w : World) (h : Heap), YP w h → (K w.params).In h)
    (F : ∀ (w : World) (mg : Str → Option Value) (fa : Addr) (h : Heap), (K w.params).In h → h.Ns mainGlobals mg → mg d.name = some (.ref fa) →
      ∃ fd : FuncData, (∀ (s : Shared) (u : Value), BindsTo s fd ⟨[u], []⟩ [(x, u)]) ∧
        ∀ base : Heap, (K w.params).In base → base.Ns mainGlobals mg → ce l.prog w (K w.params) mg base (CX w) k fa fd [x] (sp w))
    (hsp : ∀ (w : World) (H : Hp) (a : Addr) (ns : List Int), ns.length ≤ n → HF H → SqL (K w.params) H a (ns.map V.int) → sp w [.ref a] H (fun v _ => v = .bl true) fun _ _ _ => False)
    (hCX : ∀ (w : World) (H : Hp) (s : Shared) (e : Value) (s' : Shared), CX w [] H s (fun _ _ _ => False) e s' → False) :
    PySem.W.WalkO q loose XP YP l.row.toRowW d [] (fun f vs => PySem.call f vs) := by
  refine Att.attach_call hn hdf fun w s₀ s₁ mg mb fa o pm cd doc a vs ns G Y ho hd hcd hmg hobj hints hlen hg => ?_
  have KX := hY w _ Y
  obtain ⟨fd, hb, hF⟩ := F w mg fa _ KX G.T.g hmg
  exact DE KX G.T.g G.T.b G.T.builtins G.T.nolimit hg hobj hints (Nat.le_trans hlen hn2) hr hF hb (fun H hO hS => hsp w H a ns hlen hO hS) fun H e s' => hCX w H s₁ e s'
end L2
namespace L2
open PySem PySem.Spec PyProof.Rows
def aS (s : Stmt) : Arguments := match s with
  | .FunctionDef _ a _ _ _ _ _ _ _ _ => a
  | _ => { posonlyargs := [], args := [], vararg := none, kwonlyargs := [], kw_defaults := [], kwarg := none, defaults := [] }
def aN (s : Stmt) : List Stmt := match s with
  | .FunctionDef _ _ b _ _ _ _ _ _ _ => b
  | _ => []
def aj (s : Stmt) : Scope := match s with
  | .FunctionDef _ _ _ _ _ _ sc _ _ _ => sc
  | _ => { kind := .function, names := [], isGenerator := false, isCoroutine := false }
abbrev CX0 : CXT := fun _ _ _ _ _ _ => False
abbrev E0 : XK := fun _ _ _ => False
theorem Jl {X : Cx} : nG CX0 X E0 := fun _ _ _ _ _ _ _ h => h.elim
structure Fun (K : PySem.W.Frag) (x qual : Str) (st : Stmt) (f : Addr) (fd : FuncData) : Prop where
  ex : ∃ (oc : Value) (od : Option Addr) (kV doc pm : Value) (an : Option Addr) (cdv ct : Value) (osl : Array (Option Value)),
    fd = PySem.W.fnOf x qual (aS st) (aN st) (aj st) .none kV doc pm an cdv ct ∧ K.lookup f = some ⟨oc, od, .func fd, osl⟩ ∧ PySem.W.codeIn K cdv qual = true
  kp : PySem.W.keepIn K (.ref f) = true
section
variable {P : Program} {w : World} {K : PySem.W.Frag} {mg : Str → Option Value} {base : Heap}
theorem Fun.ok {x qual : Str} {st : Stmt} {f : Addr} {fd : FuncData} {N ps : List Str} {k : Nat} {sp : Sp} (F : Fun K x qual st f fd) (S : aR N ps (aj st)) (len : ∀ vs H Q E, sp vs H Q E → vs.length = ps.length)
    (hbody : ∀ (cdv : Value) (A : Around) (outer : List Env) (s : Shared) (H : Hp) (vs : List V) (Q : VK) (E : XK), gE k (A.deeper (envOfC qual (aj st) s.heap.objs.size f cdv)) → sp vs H Q E →
      ∃ t, PSs (mW CX0 P w K mg base N qual (aj st) f cdv A outer s H E).nox (aN st) t ∧ t { nx := fun _ H' => Q .non H', rt := Q } (iU N vs) H) : ce P w K mg base CX0 (k + 1) f fd ps sp := by
  obtain ⟨oc, od, kV, doc, pm, an, cdv, ct, osl, rfl, lk, hcd⟩ := F.ex
  refine GO lk hcd S len fun A outer s H vs Q E hr hsp => ?_
  obtain ⟨t, h, q⟩ := hbody cdv A outer s H vs Q E hr hsp
  exact ⟨t, h.nox, q⟩
theorem Fun.binds {x qual : Str} {st : Stmt} {f : Addr} {fd : FuncData} {ps : List Str} (F : Fun K x qual st f fd)
    (h : ∀ (kV doc pm : Value) (an : Option Addr) (cdv ct : Value) (us : List Value), us.length = ps.length → bindArgs (PySem.W.fnOf x qual (aS st) (aN st) (aj st) .none kV doc pm an cdv ct) ⟨us, []⟩ = pure (ps.zip us)) : jB K fd ps [] := by
  obtain ⟨oc, od, kV, doc, pm, an, cdv, ct, osl, rfl, lk, hcd⟩ := F.ex
  exact .all (h kV doc pm an cdv ct)
theorem bz {x qual : Str} {st : Stmt} {f : Addr} {oc : Value} {od an : Option Addr} {osl : Array (Option Value)} {kV doc pm cdv ct : Value} (l : K.lookup f = some ⟨oc, od, .func (PySem.W.fnOf x qual (aS st) (aN st) (aj st) .none kV doc pm an cdv ct), osl⟩)
    (c : PySem.W.codeIn K cdv qual = true) (k : PySem.W.keepIn K (.ref f) = true) : Fun K x qual st f (PySem.W.fnOf x qual (aS st) (aN st) (aj st) .none kV doc pm an cdv ct) := ⟨⟨oc, od, kV, doc, pm, an, cdv, ct, osl, rfl, l, c⟩, k⟩
end
section
variable {X : Cx}
end
def jS (H H' : Hp) : Prop := ∀ b o, H b = some o → H' b = some o
theorem jS.refl (H : Hp) : jS H H := fun _ _ h => h
end L2
set_option linter.all false
namespace L2
open PySem PySem.Spec
structure nK (h : Heap) (a D : Addr) (o : Obj) : Prop where
  at_ : h.get? a = some o
  cls : o.cls = .ref D
def ko (a C : Addr) : HO := .ext fun h => ∃ o, nK h a C o
end L2
namespace Fm
inductive D where
  | non | bl (b : Bool) | int (i : Int) | str (x : List Nat) | tup (l : List D) | ref (n : Nat) | lit (l : List D) | exn (c : String) (l : List D)
deriving Inhabited
inductive bL where
  | lst (l : List D) | dct (l : List (Int × D))
abbrev Hd := List bL
inductive Res (α : Type) where
  | ok (a : α) (h : Hd) | exc (x : D) (h : Hd) | bad
def Res.bind {α β : Type} (r : Res α) (f : α → Hd → Res β) : Res β := match r with
  | .ok a h => f a h | .exc x h => .exc x h | .bad => .bad
@[simp] theorem aQ {α β : Type} (a : α) (h : Hd) (f : α → Hd → Res β) : (Res.ok a h).bind f = f a h := rfl
abbrev Sd := List (Option D)
abbrev EF := Sd → Hd → Res D
abbrev TF := Sd → Hd → Res Bool
abbrev LF := Sd → Hd → Res (List D)
inductive Out where
  | nx (σ : Sd) (h : Hd) | rt (d : D) (h : Hd) | bk (σ : Sd) (h : Hd) | ct (σ : Sd) (h : Hd) | exc (x : D) (σ : Sd) (h : Hd) | bad
abbrev SF := Sd → Hd → Out
abbrev Fn := List D → Hd → Res D
abbrev SZ : Nat := 1000000
@[simp] def slot (σ : Sd) (i : Nat) : Option D := match σ[i]? with | some (some d) => some d | _ => none
@[simp] def aa (i : Nat) : EF := fun σ h => match slot σ i with | some d => .ok d h | none => .bad
@[simp] def fC (d : D) : EF := fun _ h => .ok d h
abbrev O2 := D → D → Hd → Res D
@[simp] def ao (g : O2) (a b : EF) : EF := fun σ h => (a σ h).bind fun x h => (b σ h).bind fun y h => g x y h
@[simp] def oI (g : Int → Int → Int) : O2 := fun x y h => match x, y with | .int i, .int j => .ok (.int (g i j)) h | _, _ => .bad
@[simp] def oB (g : Int → Int → Bool) : O2 := fun x y h => match x, y with | .int i, .int j => .ok (.bl (g i j)) h | _, _ => .bad
@[simp] def oIc (c : Int → Int → Bool) (g : Int → Int → Int) : O2 := fun x y h => match x, y with | .int i, .int j => if c i j then .ok (.int (g i j)) h else .bad | _, _ => .bad
def sml (i : Int) : Bool := decide (-18446744073709551616 < i) && decide (i < 18446744073709551616)
@[simp] def cE : O2 := fun x y h => match x, y with
  | .int i, .int j => .ok (.int (i + j)) h
  | .tup (x :: xs), .tup ys => if (x :: xs).length + ys.length ≤ SZ then .ok (.tup (x :: xs ++ ys)) h else .bad
  | _, _ => .bad
@[simp] def vO : O2 := fun x y h => (oI (· - ·)) x y h
@[simp] def GQ : O2 := fun x y h => (oI (· + ·)) x y h
@[simp] def dw : O2 := fun x y h => (oIc (fun i j => sml i || sml j) (· * ·)) x y h
@[simp] def ie : O2 := fun x y h => (oIc (fun _ j => decide (0 < j)) (· % ·)) x y h
@[simp] def HG : O2 := fun x y h => (oIc (fun _ j => decide (0 < j) && decide (j < 2 ^ 250)) (· / ·)) x y h
@[simp] def DF : O2 := fun x y h => (oIc (fun i j => decide (0 ≤ j) && decide (j ≤ 1000000) && sml i) (fun i j => i ^ j.toNat)) x y h
@[simp] def oLt : O2 := fun x y h => (oB fun i j => decide (i < j)) x y h
@[simp] def oLe : O2 := fun x y h => (oB fun i j => decide (i ≤ j)) x y h
@[simp] def oGt : O2 := fun x y h => (oB fun i j => decide (j < i)) x y h
@[simp] def Ki : D → Hd → Res D := fun x h => match x with | .int i => .ok (.int (-i)) h | _ => .bad
@[simp] def nM : D → Bool | .non => true | _ => false
@[simp] def mY : O2 := fun x y h => if nM y then .ok (.bl (nM x)) h else .bad
@[simp] def kq : O2 := fun x y h => if nM y then .ok (.bl (!nM x)) h else .bad
@[simp] def b2i (b : Bool) : Int := if b then 1 else 0
mutual
def peq : D → D → Option Bool
  | .int i, k => match k with | .int j => some (decide (i = j)) | .bl c => some (decide (i = b2i c)) | .non => some false | .tup _ => some false | _ => none
  | .bl c, k => match k with | .int j => some (decide (b2i c = j)) | .bl d => some (decide (c = d)) | _ => none
  | .str x, k => match k with | .str y => some (decide (x = y)) | _ => none
  | .non, k => match k with | .non => some true | .int _ => some false | .tup _ => some false | _ => none
  | .tup xs, k => match k with | .tup ys => (gF xs ys).map fun b => b && decide (xs.length = ys.length) | .non => some false | .int _ => some false | _ => none
  | .ref _, _ => none
  | .lit _, _ => none
  | .exn _ _, _ => none
def gF : List D → List D → Option Bool
  | x :: xs, y :: ys => match peq x y, gF xs ys with
    | some a, some b => some (a && b)
    | _, _ => none
  | _, _ => some true
end
mutual
def dep : D → Nat
  | .tup l => jT l + 1
  | _ => 0
def jT : List D → Nat
  | [] => 0
  | x :: xs => max (dep x) (jT xs)
end
def eqL (xs ys : List D) : Option Bool := if jT xs ≤ 20 then (if xs.length = ys.length then gF xs ys else some false) else none
@[simp] def bP (h : Hd) : D → Option (List D)
  | .ref n => match h[n]? with | some (.lst l) => some l | _ => none
  | .lit l => some l
  | _ => none
@[simp] def eqG (h : Hd) (x y : D) : Option Bool := match bP h x, bP h y with
  | some xs, some ys => eqL xs ys
  | none, none => if dep x ≤ 20 then peq x y else none
  | _, _ => none
@[simp] def oEq : O2 := fun x y h => match eqG h x y with | some b => .ok (.bl b) h | none => .bad
@[simp] def oNe : O2 := fun x y h => match eqG h x y with | some b => .ok (.bl (!b)) h | none => .bad
@[simp] def cy : D → Bool
  | .non => true | .bl _ => true | .int _ => true | .str _ => true | _ => false
@[simp] def eqF : D → D → Bool
  | .non, k => match k with | .non => true | _ => false
  | .bl a, k => match k with | .bl b => a == b | .int b => b2i a == b | _ => false
  | .int a, k => match k with | .bl b => a == b2i b | .int b => a == b | _ => false
  | .str a, k => match k with | .str b => a == b | _ => false
  | .tup _, _ => false
  | .ref _, _ => false
  | .lit _, _ => false
  | .exn _ _, _ => false
@[simp] def asB (r : Res D) : Res Bool := r.bind fun x h => match x with | .bl b => .ok b h | _ => .bad
@[simp] def tE (a : EF) : TF := fun σ h => asB (a σ h)
@[simp] def gl (t : TF) : TF := fun σ h => (t σ h).bind fun b h => .ok (!b) h
@[simp] def jR (t u : TF) : TF := fun σ h => (t σ h).bind fun b h => if b then u σ h else .ok false h
@[simp] def tOr (t u : TF) : TF := fun σ h => (t σ h).bind fun b h => if b then .ok true h else u σ h
@[simp] def fT (t : TF) : EF := fun σ h => (t σ h).bind fun b h => .ok (.bl b) h
@[simp] def fIf (t : TF) (a b : EF) : EF := fun σ h => (t σ h).bind fun c h => if c then a σ h else b σ h
@[simp] def nN (g k : O2) (a b c : EF) : EF := fun σ h => (a σ h).bind fun x h => (b σ h).bind fun y h => (g x y h).bind fun z h => match z with
  | .bl true => (c σ h).bind fun w h => k y w h
  | .bl false => .ok (.bl false) h
  | _ => .bad
@[simp] def av : LF := fun _ h => .ok [] h
@[simp] def af (a : EF) (r : LF) : LF := fun σ h => (a σ h).bind fun x h => (r σ h).bind fun xs h => .ok (x :: xs) h
@[simp] def eW (r : LF) : EF := fun σ h => (r σ h).bind fun xs h => if xs.length ≤ SZ then .ok (.tup xs) h else .bad
@[simp] def bo (r : LF) : EF := fun σ h => (r σ h).bind fun xs h => if xs.length ≤ SZ then .ok (.ref h.length) (h ++ [.lst xs]) else .bad
@[simp] def gW (h : Hd) : D → Option (List D)
  | .tup l => some l
  | .lit l => some l
  | .ref n => match h[n]? with | some (.lst l) => some l | _ => none
  | _ => none
@[simp] def lOf (a : EF) : LF := fun σ h => (a σ h).bind fun x h => match gW h x with | some l => .ok l h | none => .bad
@[simp] def inL (h : Hd) (x y : D) : Option Bool := match gW h y with
  | some l => if cy x && l.all cy then some (l.any fun z => eqF z x) else none
  | none => none
@[simp] def eS : O2 := fun x y h => match inL h x y with | some b => .ok (.bl (!b)) h | none => .bad
@[simp] def jU (x e : EF) : EF := fun σ h => (x σ h).bind fun p h => match bP h p with
  | some _ => (e σ h).bind fun d h => match bP h p with
    | some l => if cy d && l.all cy then .ok (.int (l.countP fun z => eqF z d)) h else .bad
    | none => .bad
  | none => .bad
def ixN (n : Nat) (i : Int) : Option Nat := if 0 ≤ i then (if i < n then some i.toNat else none) else if -(n : Int) ≤ i then some (i + n).toNat else none
def atI (xs : List D) (i : Int) : Option D := (ixN xs.length i).bind fun j => xs[j]?
@[simp] def fIx (a : LF) (b : EF) : EF := fun σ h => (a σ h).bind fun l h => (b σ h).bind fun y h => match y with
  | .int i => match atI l i with | some d => .ok d h | none => .bad
  | _ => .bad
@[simp] def oAt : O2 := fun x y h => match gW h x, y with
  | some l, .int i => match atI l i with | some d => .ok d h | none => .bad
  | _, _ => .bad
@[simp] def fAt (a b : EF) : EF := fun σ h => ao oAt a b σ h
@[simp] def ei (a : LF) : EF := fun σ h => (a σ h).bind fun l h => .ok (.int l.length) h
def gq : List D → Option (List Int)
  | [] => some []
  | .int i :: r => (gq r).map (i :: ·)
  | _ => none
@[simp] def kr (a : LF) : EF := fun σ h => (a σ h).bind fun l h => match gq l with | some is => .ok (.int is.sum) h | none => .bad
def my : List D → Option (List Bool)
  | [] => some []
  | .bl b :: r => (my r).map (b :: ·)
  | _ => none
@[simp] def cK (a : LF) : EF := fun σ h => (a σ h).bind fun l h => .ok (.tup l) h
@[simp] def DG (a : EF) : EF := fun σ h => (a σ h).bind fun x h => match x with | .int i => .ok (.int i) h | .bl b => .ok (.int (b2i b)) h | _ => .bad
inductive Ty where | int | bool | tuple | list | str
deriving DecidableEq
@[simp] def yk (h : Hd) (t : Ty) : D → Option Bool
  | .non => some false
  | .bl _ => some (t == .bool || t == .int)
  | .int _ => some (t == .int)
  | .str _ => some (t == .str)
  | .tup _ => some (t == .tuple)
  | .lit _ => some (t == .list)
  | .ref n => match h[n]? with | some (.lst _) => some (t == .list) | some (.dct _) => some false | none => none
  | .exn _ _ => none
@[simp] def gr (t : Ty) (a : EF) : EF := fun σ h => (a σ h).bind fun x h => match yk h t x with | some b => .ok (.bl b) h | none => .bad
@[simp] def BY (a : EF) : LF := fun σ h => (a σ h).bind fun x h => match bP h x with | some l => .ok l.reverse h | none => .bad
def sIx (n d : Nat) : Option Int → Nat
  | none => d
  | some i => if i < 0 then (i + n).toNat else min i.toNat n
def cut (l : List D) (lo hi : Option Int) : List D := (l.drop (sIx l.length 0 lo)).take (sIx l.length l.length hi - sIx l.length 0 lo)
abbrev OF := Sd → Hd → Res (Option Int)
@[simp] def pNo : OF := fun _ h => .ok none h
@[simp] def pAt (a : EF) : OF := fun σ h => (a σ h).bind fun x h => match x with | .int i => .ok (some i) h | _ => .bad
@[simp] def gG (a : EF) (lo hi : OF) : EF := fun σ h => (a σ h).bind fun x h => (lo σ h).bind fun i h => (hi σ h).bind fun j h => match x with
  | .tup l => if sIx l.length 0 i = 0 ∧ sIx l.length l.length j = l.length then .bad else .ok (.tup (cut l i j)) h
  | x => match bP h x with | some l => .ok (.ref h.length) (h ++ [.lst (cut l i j)]) | none => .bad
def bN : List Int → List Int → Bool
  | [], [] => false
  | [], _ :: _ => true
  | _ :: _, [] => false
  | x :: xs, y :: ys => if x = y then bN xs ys else decide (x < y)
def mZ : List D → Option (List (List Int))
  | [] => some []
  | .tup l :: r => match gq l, mZ r with | some a, some b => some (a :: b) | _, _ => none
  | _ => none
def tM : List (List Int) → Bool
  | a :: b :: r => !bN b a && tM (b :: r)
  | _ => true
@[simp] def ni (l : List D) : Option (List D) := match mZ l with
  | some r => if l.length < 64 ∧ tM r = true ∧ r.all (fun x => !x.isEmpty) = true then some l else none
  | none => none
@[simp] def lu (a : EF) : LF := fun σ h => (a σ h).bind fun x h => match bP h x with
  | some l => match ni l with | some l => .ok l h | none => .bad
  | none => .bad
@[simp] def aw (F : Fn) (r : LF) : EF := fun σ h => (r σ h).bind fun xs h => F xs h
abbrev IF := Sd → Hd → Res (List D × Option Nat)
@[simp] def bZ (a : EF) : IF := fun σ h => (a σ h).bind fun x h => match x with
  | .int n => if -1000000 ≤ n ∧ n ≤ 1000000 then .ok ((List.range n.toNat).map (fun k : Nat => .int k), none) h else .bad
  | _ => .bad
@[simp] def db (a : EF) : IF := fun σ h => (a σ h).bind fun x h => match x with
  | .tup l => .ok (l, none) h
  | .lit l => .ok (l, none) h
  | .ref n => match h[n]? with | some (.lst l) => .ok (l, some n) h | _ => .bad
  | _ => .bad
@[simp] def DH (a : EF) : IF := fun σ h => (a σ h).bind fun x h => match x with
  | .tup l => .ok ((List.range l.length).zip l |>.map fun p => .tup [.int (p.1 : Nat), p.2], none) h
  | _ => .bad
noncomputable section
open Classical
def gm (g : Option Nat) (all : List D) (h : Hd) : Prop := match g with | none => True | some n => h[n]? = some (.lst all)
abbrev GF := D → Sd → Option Sd
@[simp] def gN (i : Nat) : GF := fun d σ => some (σ.set i (some d))
@[simp] def gT (l : List Nat) : GF := fun d σ => match d with
  | .tup xs => if xs.length = l.length then some ((l.zip xs).foldl (fun σ p => σ.set p.1 (some p.2)) σ) else none
  | _ => none
@[simp] def aC (a b : SF) : SF := fun σ h => match a σ h with | .nx σ h => b σ h | r => r
@[simp] def bS : SF := fun σ h => .nx σ h
@[simp] def outE (r : Res D) (σ : Sd) (k : D → Hd → Out) : Out := match r with | .ok d h => k d h | .exc x h => .exc x σ h | .bad => .bad
@[simp] def aH (g : GF) (a : EF) : SF := fun σ h => outE (a σ h) σ fun d h => match g d σ with | some σ => .nx σ h | none => .bad
@[simp] def bi (a : EF) : SF := fun σ h => outE (a σ h) σ fun d h => .rt d h
@[simp] def gX (a : EF) : SF := fun σ h => outE (a σ h) σ fun _ h => .nx σ h
@[simp] def sIf (t : TF) (a b : SF) : SF := fun σ h => match t σ h with | .ok c h => if c then a σ h else b σ h | .exc x h => .exc x σ h | .bad => .bad
@[simp] def FC (i : Nat) (g : O2) (a : EF) : SF := fun σ h => match slot σ i with
  | some x => outE (a σ h) σ fun y h => outE (g x y h) σ fun z h => .nx (σ.set i (some z)) h
  | none => .bad
@[simp] def pM (x i e : EF) : SF := fun σ h => outE (e σ h) σ fun d h => outE (x σ h) σ fun p h => outE (i σ h) σ fun j h => match p, j with
  | .ref n, .int j => match h[n]? with
    | some (.lst l) => match ixN l.length j with
      | some k => .nx σ (h.set n (.lst (l.set k d)))
      | none => .bad
    | _ => .bad
  | _, _ => .bad
@[simp] def Jm : O2 := fun p d h => match p with
  | .ref n => match h[n]? with
    | some (.lst l) => if l.length < SZ then .ok .non (h.set n (.lst (l ++ [d]))) else .bad
    | _ => .bad
  | _ => .bad
@[simp] def m5 (x e : EF) : EF := fun σ h => (x σ h).bind fun p h => match p with
  | .ref n => match h[n]? with
    | some (.lst _) => (e σ h).bind fun d h => Jm (.ref n) d h
    | _ => .bad
  | _ => .bad
def cV (g : Option Nat) (all : List D) (tg : GF) (b : SF) : List D → SF
  | [], σ, h => if gm g all h then .nx σ h else .bad
  | x :: xs, σ, h => if gm g all h then match tg x σ with
      | some σ => match b σ h with
        | .nx σ h => cV g all tg b xs σ h
        | .ct σ h => cV g all tg b xs σ h
        | .bk σ h => .nx σ h
        | r => r
      | none => .bad
    else .bad
@[simp] def gn (it : IF) (tg : GF) (b : SF) : SF := fun σ h => match it σ h with
  | .ok (l, g) h => cV g l tg b l σ h
  | .exc x h => .exc x σ h
  | .bad => .bad
def cF (t : TF) (b : SF) : Nat → SF
  | 0, _, _ => .bad
  | n + 1, σ, h => match t σ h with
    | .ok true h => match b σ h with
      | .nx σ h => cF t b n σ h
      | .ct σ h => cF t b n σ h
      | .bk σ h => .nx σ h
      | r => r
    | .ok false h => .nx σ h
    | .exc x h => .exc x σ h
    | .bad => .bad
def FD (t : TF) (b : SF) : Sd → Hd → Nat := fun σ h => if ex : ∃ n, cF t b n σ h ≠ .bad then Classical.choose ex else 0
def jV (t : TF) (b : SF) : SF := fun σ h => cF t b (FD t b σ h) σ h
@[simp] def iN : List TF → TF
  | [], _, h => .ok true h
  | t :: r, σ, h => (t σ h).bind fun b h => if b then iN r σ h else .ok false h
def cz (g : Option Nat) (all : List D) (tg : GF) (cs : List TF) (e : EF) : List D → Sd → Hd → Res (List D)
  | [], _, h => if gm g all h then .ok [] h else .bad
  | x :: xs, σ, h => if gm g all h then match tg x σ with
      | some σ => (iN cs σ h).bind fun b h => if b then (e σ h).bind fun d h => (cz g all tg cs e xs σ h).bind fun ds h => .ok (d :: ds) h
        else cz g all tg cs e xs σ h
      | none => .bad
    else .bad
@[simp] def fR (nl : Nat) (caps : List Nat) (σ : Sd) : Sd := List.replicate nl none ++ caps.map fun i => slot σ i
@[simp] def bO (nl : Nat) (caps : List Nat) (it : IF) (tg : GF) (cs : List TF) (e : EF) : LF := fun σ h => (it σ h).bind fun p h =>
  cz p.2 p.1 tg cs e p.1 (fR nl caps σ) h
mutual
def pure? : D → Bool
  | .ref _ => false
  | .tup l => dn l
  | .lit l => dn l
  | .exn _ l => dn l
  | _ => true
def dn : List D → Bool
  | [] => true
  | x :: xs => pure? x && dn xs
end
def vP : bL → Bool
  | .lst l => dn l
  | .dct l => l.all fun p => pure? p.2
def A6 (h h' : Hd) : Prop := ∀ n c, n < h.length → h'[n]? = some c → h[n]? = some c ∨ vP c = true
def letGo (h : Hd) (r : Res D) : Res D := match r with
  | .ok d h' => if pure? d = true ∧ A6 h h' then .ok d (h'.take h.length) else .ok d h'
  | r => r
def runB (n : Nat) (b : SF) : Fn := fun ds h => match b (ds.map some ++ List.replicate (n - ds.length) none) h with
  | .nx _ h => .ok .non h
  | .rt d h => .ok d h
  | .exc x _ h => .exc x h
  | _ => .bad
def a8 (np n : Nat) (b : SF) : Fn := fun ds h => if ds.length = np then letGo h (runB n b ds h) else .bad
end
end Fm
set_option Elab.async false
set_option linter.all false
set_option maxRecDepth 100000
namespace Fm
open PySem PySem.Spec L2
def toS (x : List Nat) : Str := ⟨x.toArray⟩
def mz (K : PySem.W.Frag) (H : Hp) (a : Addr) (xs : List V) : Prop :=
  (∃ o, H a = some (.frz o (.lst xs))) ∨
    ∃ (o : Obj) (its : Array Value) (n : Nat), K.lookup a = some o ∧ o.cls = .type "list" ∧ o.dict = none ∧ o.data = .seq its n ∧ its.size ≤ sizeLine ∧ aP xs its.toList
section
variable (K : PySem.W.Frag) (ρ : List Addr) (H : Hp)
mutual
def RD : D → V → Prop
  | .non, v => v = .non
  | .bl b, v => v = .bl b
  | .int i, v => v = .int i
  | .str x, v => v = .str (toS x)
  | .tup l, v => ∃ p vs, v = .ref p ∧ H p = some (.tup vs) ∧ RDs l vs
  | .lit l, v => ∃ p vs, v = .ref p ∧ mz K H p vs ∧ RDs l vs
  | .ref n, v => ∃ a, ρ[n]? = some a ∧ v = .ref a
  | .exn c l, v => l = [] ∧ ∃ a C, v = .ref a ∧ H a = some (ko a C) ∧ PySem.W.nsIn K mainGlobals (Str.ofString c) = some (some (.ref C))
def RDs : List D → List V → Prop
  | [], vs => vs = []
  | d :: ds, vs => ∃ v r, vs = v :: r ∧ RD d v ∧ RDs ds r
end
def RC : bL → Addr → Prop
  | .lst l, a => ∃ vs, H a = some (.lst vs) ∧ RDs K ρ H l vs
  | .dct l, a => ∃ kvs, H a = some (.dK kvs) ∧ kvs.map (·.1) = l.map (fun p => (Sum.inl p.1 : Key)) ∧ RDs K ρ H (l.map (·.2)) (kvs.map (·.2))
structure RH (hd : Hd) : Prop where
  len : ρ.length = hd.length
  nd : ρ.Nodup
  cel : ∀ (n : Nat) c a, hd[n]? = some c → ρ[n]? = some a → RC K ρ H c a
structure RSt (σd : Sd) (σ : St) : Prop where
  len : σd.length = σ.length
  at' : ∀ i d, slot σd i = some d → ∃ v, σ[i]? = some (some v) ∧ RD K ρ H d v
structure RS (σd : Sd) (hd : Hd) (σ : St) : Prop where
  hp : RH K ρ H hd
  st : RSt K ρ H σd σ
end
structure Ext (ρ : List Addr) (H : Hp) (ρ' : List Addr) (H' : Hp) : Prop where
  pre : ∃ t, ρ' = ρ ++ t
  new : ∀ a ∈ ρ', a ∈ ρ ∨ H a = none
  frame : ∀ p o, H p = some o → p ∉ ρ → H' p = some o
section
variable {K : PySem.W.Frag} {ρ ρ' ρ'' : List Addr} {H H' H'' : Hp} {hd hd' : Hd} {σd σd' : Sd} {σ σ' : St}
theorem Ext.refl : Ext ρ H ρ H := ⟨⟨[], by simp⟩, fun _ h => .inl h, fun _ _ h _ => h⟩
theorem Ext.out (e : Ext ρ H ρ' H') {p : Addr} {o : HO} (h : H p = some o) (n : p ∉ ρ) : p ∉ ρ' := fun z => by
  rcases e.new p z with q | q
  · exact n q
  · rw [h] at q; cases q
theorem Ext.trans (a : Ext ρ H ρ' H') (b : Ext ρ' H' ρ'' H'') : Ext ρ H ρ'' H'' where
  pre := by
    obtain ⟨t, rfl⟩ := a.pre
    obtain ⟨u, rfl⟩ := b.pre
    exact ⟨t ++ u, by simp⟩
  new := fun x hx => by
    rcases b.new x hx with q | q
    · exact a.new x q
    · cases e : H x with
      | none => exact .inr rfl
      | some o =>
        by_cases hn : x ∈ ρ
        · exact .inl hn
        · rw [a.frame x o e hn] at q; cases q
  frame := fun p o h n => b.frame p o (a.frame p o h n) (a.out h n)
theorem Ext.same (s : jS H H') : Ext ρ H ρ H' := ⟨⟨[], by simp⟩, fun _ h => .inl h, fun p o h _ => s p o h⟩
theorem Ext.get (e : Ext ρ H ρ' H') {n : Nat} {a : Addr} (h : ρ[n]? = some a) : ρ'[n]? = some a := by
  obtain ⟨t, rfl⟩ := e.pre
  rw [List.getElem?_append_left (List.getElem?_eq_some_iff.mp h).1]
  exact h
theorem RH.mut (r : RH K ρ H hd) {a : Addr} (h : a ∈ ρ) : (∃ vs, H a = some (.lst vs)) ∨ ∃ kvs, H a = some (.dK kvs) := by
  obtain ⟨n, hn⟩ := List.getElem?_of_mem h
  have hl := (List.getElem?_eq_some_iff.mp hn).1
  have hc : hd[n]? = some (hd[n]'(by rw [← r.len]; exact hl)) := by simp
  have q := r.cel n _ a hc hn
  cases e : hd[n]'(by rw [← r.len]; exact hl) with
  | lst l => rw [e] at q; obtain ⟨vs, h1, _⟩ := q; exact .inl ⟨vs, h1⟩
  | dct l => rw [e] at q; obtain ⟨vs, h1, _⟩ := q; exact .inr ⟨vs, h1⟩
theorem RH.noTup (r : RH K ρ H hd) {a : Addr} {vs : List V} (h : H a = some (.tup vs)) : a ∉ ρ := fun z => by
  rcases r.mut z with ⟨_, q⟩ | ⟨_, q⟩ <;> (rw [h] at q; cases q)
theorem RH.noFrz (r : RH K ρ H hd) {a : Addr} {o : Obj} {u : HO} (h : H a = some (.frz o u)) : a ∉ ρ := fun z => by
  rcases r.mut z with ⟨_, q⟩ | ⟨_, q⟩ <;> (rw [h] at q; cases q)
theorem RH.noExt (r : RH K ρ H hd) {a : Addr} {φ : Heap → Prop} (h : H a = some (.ext φ)) : a ∉ ρ := fun z => by
  rcases r.mut z with ⟨_, q⟩ | ⟨_, q⟩ <;> (rw [h] at q; cases q)
structure Kp (ρ : List Addr) (H : Hp) (ρ' : List Addr) (H' : Hp) : Prop where
  get : ∀ (n : Nat) a, ρ[n]? = some a → ρ'[n]? = some a
  tup : ∀ a vs, H a = some (.tup vs) → H' a = some (.tup vs)
  frz : ∀ a o u, H a = some (.frz o u) → H' a = some (.frz o u)
  ext : ∀ a φ, H a = some (.ext φ) → H' a = some (.ext φ)
theorem RH.kp (r : RH K ρ H hd) (e : Ext ρ H ρ' H') : Kp ρ H ρ' H' :=
  ⟨fun _ _ h => e.get h, fun _ _ h => e.frame _ _ h (r.noTup h), fun _ _ _ h => e.frame _ _ h (r.noFrz h), fun _ _ h => e.frame _ _ h (r.noExt h)⟩
theorem Kp.same (s : jS H H') : Kp ρ H ρ H' := ⟨fun _ _ h => h, fun _ _ h => s _ _ h, fun _ _ _ h => s _ _ h, fun _ _ h => s _ _ h⟩
theorem mz.mono {a : Addr} {xs : List V} (k : Kp ρ H ρ' H') (h : mz K H a xs) : mz K H' a xs := by
  rcases h with ⟨o, h⟩ | h
  · exact .inl ⟨o, k.frz _ _ _ h⟩
  · exact .inr h
mutual
theorem RD.mono (k : Kp ρ H ρ' H') : ∀ {d : D} {v : V}, RD K ρ H d v → RD K ρ' H' d v
  | .non, _, h => by simp only [RD] at h ⊢; exact h
  | .bl _, _, h => by simp only [RD] at h ⊢; exact h
  | .int _, _, h => by simp only [RD] at h ⊢; exact h
  | .str _, _, h => by simp only [RD] at h ⊢; exact h
  | .tup l, _, h => by
    simp only [RD] at h ⊢
    obtain ⟨p, vs, e, h1, h2⟩ := h
    exact ⟨p, vs, e, k.tup _ _ h1, RDs.mono k h2⟩
  | .lit l, _, h => by
    simp only [RD] at h ⊢
    obtain ⟨p, vs, e, h1, h2⟩ := h
    exact ⟨p, vs, e, h1.mono k, RDs.mono k h2⟩
  | .ref n, _, h => by
    simp only [RD] at h ⊢
    obtain ⟨a, h1, h2⟩ := h
    exact ⟨a, k.get _ _ h1, h2⟩
  | .exn _ _, _, h => by
    simp only [RD] at h ⊢
    obtain ⟨e0, a, C, e, h1, h2⟩ := h
    exact ⟨e0, a, C, e, k.ext _ _ h1, h2⟩
theorem RDs.mono (k : Kp ρ H ρ' H') : ∀ {l : List D} {vs : List V}, RDs K ρ H l vs → RDs K ρ' H' l vs
  | [], _, h => by simp only [RDs] at h ⊢; exact h
  | d :: ds, _, h => by
    simp only [RDs] at h ⊢
    obtain ⟨v, r, e, h1, h2⟩ := h
    exact ⟨v, r, e, RD.mono k h1, RDs.mono k h2⟩
end
theorem RDs.nil : RDs K ρ H [] [] := by simp only [RDs]
theorem RDs.cons {d : D} {v : V} {ds : List D} {vs : List V} (h : RD K ρ H d v) (t : RDs K ρ H ds vs) : RDs K ρ H (d :: ds) (v :: vs) := by
  simp only [RDs]; exact ⟨v, vs, rfl, h, t⟩
theorem RDs.length : ∀ {l : List D} {vs : List V}, RDs K ρ H l vs → l.length = vs.length
  | [], _, h => by simp only [RDs] at h; subst h; rfl
  | d :: ds, _, h => by
    simp only [RDs] at h
    obtain ⟨v, r, e, h1, h2⟩ := h
    subst e
    simp [RDs.length h2]
theorem RDs.get : ∀ {l : List D} {vs : List V} {i : Nat} {d : D}, RDs K ρ H l vs → l[i]? = some d → ∃ v, vs[i]? = some v ∧ RD K ρ H d v
  | [], _, i, _, _, e => by simp at e
  | d :: ds, _, 0, _, h, e => by
    simp only [RDs] at h
    obtain ⟨v, r, e', h1, h2⟩ := h
    subst e'
    simp at e
    subst e
    exact ⟨v, rfl, h1⟩
  | d :: ds, _, i + 1, x, h, e => by
    simp only [RDs] at h
    obtain ⟨v, r, e', h1, h2⟩ := h
    subst e'
    obtain ⟨w, hw, q⟩ := RDs.get (i := i) (d := x) h2 (by simpa using e)
    exact ⟨w, by simpa using hw, q⟩
theorem RDs.set {d : D} {v : V} (h : RD K ρ H d v) : ∀ {l : List D} {vs : List V} (i : Nat), RDs K ρ H l vs → RDs K ρ H (l.set i d) (vs.set i v)
  | [], _, _, q => by simp only [RDs] at q; subst q; exact RDs.nil
  | x :: xs, _, i, q => by
    simp only [RDs] at q
    obtain ⟨w, r, e, h1, h2⟩ := q
    subst e
    cases i with
    | zero => exact RDs.cons h h2
    | succ i => exact RDs.cons h1 (RDs.set h i h2)
theorem RDs.append : ∀ {l l' : List D} {vs vs' : List V}, RDs K ρ H l vs → RDs K ρ H l' vs' → RDs K ρ H (l ++ l') (vs ++ vs')
  | [], _, _, _, h, q => by simp only [RDs] at h; subst h; exact q
  | d :: ds, _, _, _, h, q => by
    simp only [RDs] at h
    obtain ⟨v, r, e, h1, h2⟩ := h
    subst e
    exact RDs.cons h1 (RDs.append h2 q)
theorem RDs.take : ∀ {l : List D} {vs : List V} (n : Nat), RDs K ρ H l vs → RDs K ρ H (l.take n) (vs.take n)
  | _, _, 0, _ => by simp; exact RDs.nil
  | [], _, n + 1, h => by simp only [RDs] at h; subst h; exact RDs.nil
  | d :: ds, _, n + 1, h => by
    simp only [RDs] at h
    obtain ⟨v, r, e, h1, h2⟩ := h
    subst e
    exact RDs.cons h1 (RDs.take n h2)
theorem RDs.drop : ∀ {l : List D} {vs : List V} (n : Nat), RDs K ρ H l vs → RDs K ρ H (l.drop n) (vs.drop n)
  | _, _, 0, h => by simpa using h
  | [], _, n + 1, h => by simp only [RDs] at h; subst h; exact RDs.nil
  | d :: ds, _, n + 1, h => by
    simp only [RDs] at h
    obtain ⟨v, r, e, h1, h2⟩ := h
    subst e
    simpa using RDs.drop n h2
theorem RDs.reverse {l : List D} {vs : List V} (h : RDs K ρ H l vs) : RDs K ρ H l.reverse vs.reverse := by
  induction l generalizing vs with
  | nil => simp only [RDs] at h; subst h; exact RDs.nil
  | cons d ds ih =>
    simp only [RDs] at h
    obtain ⟨v, r, e, h1, h2⟩ := h
    subst e
    simp only [List.reverse_cons]
    exact (ih h2).append (RDs.cons h1 RDs.nil)
theorem RC.mono {c : bL} {a : Addr} (k : Kp ρ H ρ' H') (e : H' a = H a) (h : RC K ρ H c a) : RC K ρ' H' c a := by
  cases c with
  | lst l => obtain ⟨vs, h1, h2⟩ := h; exact ⟨vs, e.trans h1, h2.mono k⟩
  | dct l => obtain ⟨vs, h1, h2, h3⟩ := h; exact ⟨vs, e.trans h1, h2, h3.mono k⟩
theorem RH.same (r : RH K ρ H hd) (s : jS H H') : RH K ρ H' hd :=
  ⟨r.len, r.nd, fun n c a h1 h2 => (r.cel n c a h1 h2).mono (Kp.same s) (by
    rcases r.mut (List.mem_of_getElem? h2) with ⟨_, q⟩ | ⟨_, q⟩ <;> rw [q, s _ _ q])⟩
theorem RSt.mono (k : Kp ρ H ρ' H') (r : RSt K ρ H σd σ) : RSt K ρ' H' σd σ :=
  ⟨r.len, fun i d h => let ⟨v, h1, h2⟩ := r.at' i d h; ⟨v, h1, h2.mono k⟩⟩
theorem RS.same (r : RS K ρ H σd hd σ) (s : jS H H') : RS K ρ H' σd hd σ := ⟨r.hp.same s, r.st.mono (Kp.same s)⟩
theorem bT {p : Addr} {o : HO} (h : H p = none) : jS H (upd H p o) := fun b u e => by
  rw [aD (aG e h)]; exact e
theorem RH.alloc (r : RH K ρ H hd) {p : Addr} {l : List D} {vs : List V} (hp : H p = some (.lst vs)) (hn : p ∉ ρ) (h : RDs K ρ H l vs) : RH K (ρ ++ [p]) H (hd ++ [.lst l]) := by
  have k : Kp ρ H (ρ ++ [p]) H := ⟨fun n a e => by rw [List.getElem?_append_left (List.getElem?_eq_some_iff.mp e).1]; exact e, fun _ _ h => h, fun _ _ _ h => h, fun _ _ h => h⟩
  refine ⟨by simp [r.len], ?_, fun n c a h1 h2 => ?_⟩
  · rw [List.nodup_append]
    exact ⟨r.nd, by simp, fun a ha b hb => by simp at hb; subst hb; intro e; subst e; exact hn ha⟩
  · by_cases hlt : n < hd.length
    · rw [List.getElem?_append_left hlt] at h1
      rw [List.getElem?_append_left (by rw [r.len]; exact hlt)] at h2
      exact (r.cel n c a h1 h2).mono k rfl
    · have e1 : n = hd.length := by
        have := (List.getElem?_eq_some_iff.mp h1).1
        simp at this
        omega
      subst e1
      simp at h1
      subst h1
      rw [← r.len] at h2
      simp at h2
      subst h2
      exact ⟨vs, hp, h.mono k⟩
theorem vQ {α : Type} : ∀ {l : List α}, l.Nodup → ∀ {i j : Nat} {x : α}, l[i]? = some x → l[j]? = some x → i = j
  | [], _, i, _, _, e, _ => by simp at e
  | a :: l, nd, 0, 0, _, _, _ => rfl
  | a :: l, nd, 0, j + 1, x, e, e' => by
    simp at e e'
    subst e
    exact absurd (List.mem_of_getElem? e') (List.nodup_cons.mp nd).1
  | a :: l, nd, i + 1, 0, x, e, e' => by
    simp at e e'
    subst e'
    exact absurd (List.mem_of_getElem? e) (List.nodup_cons.mp nd).1
  | a :: l, nd, i + 1, j + 1, x, e, e' => by
    simp at e e'
    rw [vQ (List.nodup_cons.mp nd).2 e e']
theorem RH.write (r : RH K ρ H hd) {n : Nat} {p : Addr} {l : List D} {vs : List V} (hp : ρ[n]? = some p) (hn : n < hd.length) (h : RDs K ρ H l vs) : RH K ρ (upd H p (.lst vs)) (hd.set n (.lst l)) := by
  have k : Kp ρ H ρ (upd H p (.lst vs)) := by
    have hm := List.mem_of_getElem? hp
    refine ⟨fun _ _ h => h, fun a us e => ?_, fun a o u e => ?_, fun a φ e => ?_⟩
    · rw [aD (fun z => r.noTup e (by rw [z]; exact hm))]; exact e
    · rw [aD (fun z => r.noFrz e (by rw [z]; exact hm))]; exact e
    · rw [aD (fun z => r.noExt e (by rw [z]; exact hm))]; exact e
  refine ⟨by simp [r.len], r.nd, fun m c a h1 h2 => ?_⟩
  by_cases e : n = m
  · subst e
    rw [List.getElem?_set_self hn] at h1
    cases h1
    rw [hp] at h2
    cases h2
    exact ⟨vs, bh, h.mono k⟩
  · rw [List.getElem?_set_ne e] at h1
    have ne : a ≠ p := fun z => by
      subst z
      exact e (vQ r.nd hp h2)
    exact (r.cel m c a h1 h2).mono k (aD ne)
theorem Ext.write {p : Addr} {o : HO} (hp : p ∈ ρ) : Ext ρ H ρ (upd H p o) :=
  ⟨⟨[], by simp⟩, fun _ h => .inl h, fun q u e n => by rw [aD (fun z => n (by rw [z]; exact hp))]; exact e⟩
theorem Ext.alloc {p : Addr} (h : H p = none) {o : HO} : Ext ρ H (ρ ++ [p]) (upd H p o) :=
  ⟨⟨[p], rfl⟩, fun a ha => by
    rcases List.mem_append.mp ha with q | q
    · exact .inl q
    · simp at q; subst q; exact .inr h, fun q u e _ => bT h q u e⟩
theorem RS.ext (r : RS K ρ H σd hd σ) (e : Ext ρ H ρ' H') (h : RH K ρ' H' hd') : RS K ρ' H' σd hd' σ := ⟨h, r.st.mono (r.hp.kp e)⟩
end
end Fm
set_option Elab.async false
set_option linter.all false
set_option maxRecDepth 100000
namespace Fm
open PySem PySem.Spec L2
abbrev VR (α β : Type) := List Addr → Hp → α → β → Prop
section
variable (K : PySem.W.Frag)
def br {α β : Type} (R : VR α β) (ρ : List Addr) (H : Hp) (σd : Sd) (σ : St) (r : Res α) (Q : β → Hp → Prop) : Prop := match r with
  | .ok a hd' => ∀ b H' ρ', Ext ρ H ρ' H' → RS K ρ' H' σd hd' σ → R ρ' H' a b → Q b H'
  | _ => False
def jA {α β : Type} (R : VR α β) (f : Sd → Hd → Res α) : St → Hp → (β → Hp → Prop) → Prop := fun σ H Q =>
  ∃ ρ σd hd, RS K ρ H σd hd σ ∧ br K R ρ H σd σ (f σd hd) Q
abbrev rD : VR D V := fun ρ H d v => RD K ρ H d v
abbrev rDs : VR (List D) (List V) := fun ρ H d v => RDs K ρ H d v
abbrev rB : VR Bool Bool := fun _ _ a b => a = b
abbrev rO : VR (Option Int) (Option Int) := fun _ _ a b => a = b
def rQ : VR (List D) V := fun ρ H l v => ∃ p vs, v = .ref p ∧ (SqL K H p vs ∨ H p = some (.tup vs)) ∧ RDs K ρ H l vs
def A7 (ρ : List Addr) (H : Hp) (σd : Sd) (σ : St) (r : Res (List D)) (Q : VK) : Prop := match r with
  | .ok l hd' => ∀ q vs H' ρ', Ext ρ H ρ' H' → RS K ρ' H' σd hd' σ → H q = none → H' q = some (.lst vs) → q ∉ ρ' → RDs K ρ' H' l vs → Q (.ref q) H'
  | _ => False
def Jn (f : LF) : TE := fun σ H Q => ∃ ρ σd hd, RS K ρ H σd hd σ ∧ A7 K ρ H σd σ (f σd hd) Q
def bp (ρ : List Addr) (H : Hp) (o : Out) (E : nB) : Prop := match o with
  | .nx σd hd => ∀ σ H' ρ', Ext ρ H ρ' H' → RS K ρ' H' σd hd σ → E.nx σ H'
  | .bk σd hd => ∀ σ H' ρ', Ext ρ H ρ' H' → RS K ρ' H' σd hd σ → E.bk σ H'
  | .ct σd hd => ∀ σ H' ρ', Ext ρ H ρ' H' → RS K ρ' H' σd hd σ → E.ct σ H'
  | .rt d hd => ∀ v H' ρ', Ext ρ H ρ' H' → RH K ρ' H' hd → RD K ρ' H' d v → E.rt v H'
  | _ => False
def GR (f : SF) : TS := fun E σ H => ∃ ρ σd hd, RS K ρ H σd hd σ ∧ bp K ρ H (f σd hd) E
end
def ME (X : Cx) (e : Expr) (f : EF) : Prop := PE X e (jA X.K (rD X.K) f)
def MQ (X : Cx) (e : Expr) (f : LF) : Prop := PE X e (jA X.K (rQ X.K) f)
def MF (X : Cx) (e : Expr) (f : LF) : Prop := PE X e (Jn X.K f)
def MT (X : Cx) (e : Expr) (f : TF) : Prop := PT X e (jA X.K rB f)
def MW (X : Cx) (e : Expr) (f : TF) : Prop := PW X e (jA X.K rB f)
def MA (X : Cx) (es : List Expr) (f : LF) : Prop := PA X es (jA X.K (rDs X.K) f)
def MS (X : Cx) (s : Stmt) (f : SF) : Prop := PS X s (GR X.K f)
def MSs (X : Cx) (s : List Stmt) (f : SF) : Prop := PSs X s (GR X.K f)
section
variable {X : Cx}
theorem PE.imp {e : Expr} {t u : TE} (h : PE X e t) (i : ∀ σ H Q, u σ H Q → t σ H Q) : PE X e u := fun pins s σ H Q I q => h pins s σ H Q I (i σ H Q q)
theorem PT.imp {e : Expr} {t u : TT} (h : PT X e t) (i : ∀ σ H Q, u σ H Q → t σ H Q) : PT X e u := fun pins s σ H Q I q => h pins s σ H Q I (i σ H Q q)
theorem PW.imp {e : Expr} {t u : TT} (h : PW X e t) (i : ∀ σ H Q, u σ H Q → t σ H Q) : PW X e u := fun w pins s σ H Q I q => h w pins s σ H Q I (i σ H Q q)
theorem PA.imp {e : List Expr} {t u : TA} (h : PA X e t) (i : ∀ σ H Q, u σ H Q → t σ H Q) : PA X e u := fun p pins s σ H Q I q => h p pins s σ H Q I (i σ H Q q)
theorem PS.imp {e : Stmt} {t u : TS} (h : PS X e t) (i : ∀ D σ H, u D σ H → t D σ H) : PS X e u := fun pins s σ H D I q => h pins s σ H D I (i D σ H q)
theorem PSs.imp {e : List Stmt} {t u : TS} (h : PSs X e t) (i : ∀ D σ H, u D σ H → t D σ H) : PSs X e u := fun pins s σ H D I q => h pins s σ H D I (i D σ H q)
end
section
variable {K : PySem.W.Frag} {ρ ρ' : List Addr} {H H' : Hp} {hd hd' : Hd} {σd : Sd} {σ : St} {α β α' β' : Type} {R : VR α β} {R' : VR α' β'}
theorem br.here {a : α} {b : β} {Q : β → Hp → Prop} (h : br K R ρ H σd σ (.ok a hd) Q) (r : RS K ρ H σd hd σ) (q : R ρ H a b) : Q b H := h b H ρ Ext.refl r q
theorem br.at {a : α} {b : β} {Q : β → Hp → Prop} (h : br K R ρ H σd σ (.ok a hd) Q) (e : Ext ρ H ρ' H') (r : RS K ρ' H' σd hd σ) (q : R ρ' H' a b) : Q b H' := h b H' ρ' e r q
theorem br.imp {r : Res α} {Q Q' : β → Hp → Prop} (h : br K R ρ H σd σ r Q) (i : ∀ b H', Q b H' → Q' b H') : br K R ρ H σd σ r Q' := by
  cases r with
  | ok a h' => exact fun b H' ρ' e s q => i b H' (h b H' ρ' e s q)
  | exc x h' => exact h
  | bad => exact h
theorem br.ext {r : Res α} {Q : β → Hp → Prop} (e : Ext ρ H ρ' H') (h : br K R ρ H σd σ r Q) : br K R ρ' H' σd σ r Q := by
  cases r with
  | ok a h' => exact fun b H'' ρ'' e' s q => h b H'' ρ'' (e.trans e') s q
  | exc x h' => exact h
  | bad => exact h
theorem br.bind {r : Res α} {k : α → Hd → Res α'} {Q : β' → Hp → Prop} (h : br K R' ρ H σd σ (r.bind k) Q) :
    br K R ρ H σd σ r (fun b H' => ∃ ρ' a hd', Ext ρ H ρ' H' ∧ RS K ρ' H' σd hd' σ ∧ R ρ' H' a b ∧ br K R' ρ' H' σd σ (k a hd') Q) := by
  cases r with
  | ok a h' => exact fun b H' ρ' e s q => ⟨ρ', a, h', e, s, q, br.ext e h⟩
  | exc x h' => exact h
  | bad => exact h
theorem bp.ext {o : Out} {E : nB} (e : Ext ρ H ρ' H') (h : bp K ρ H o E) : bp K ρ' H' o E := by
  cases o with
  | nx σ h' => exact fun σ' H'' ρ'' e' s => h σ' H'' ρ'' (e.trans e') s
  | bk σ h' => exact fun σ' H'' ρ'' e' s => h σ' H'' ρ'' (e.trans e') s
  | ct σ h' => exact fun σ' H'' ρ'' e' s => h σ' H'' ρ'' (e.trans e') s
  | rt d h' => exact fun v H'' ρ'' e' s q => h v H'' ρ'' (e.trans e') s q
  | exc x σ h' => exact h
  | bad => exact h
end
section
variable {X : Cx} {pos : Pos}
theorem HH {i : Nat} {x : Str} (hN : X.N[i]? = some x) (hv : Vis X.env.scope x) (hd : (x == ("__debug__" : Str)) = false := by decide) (hcd : (x == ("__classdict__" : Str)) = false := by decide) : ME X (.Name x pos) (aa i) := by
  refine PE.imp (Dn hN hv hd hcd) fun σ H Q ⟨ρ, σd, hd, r, h⟩ => ?_
  unfold aa at h
  cases e : slot σd i with
  | none => rw [e] at h; exact h.elim
  | some d =>
    rw [e] at h
    obtain ⟨v, h1, h2⟩ := r.st.at' i d e
    exact ⟨v, h1, h.here r h2⟩
theorem tN {K : PySem.W.Frag} {d : D} {v : V} (hv : ∀ ρ H, RD K ρ H d v) : ∀ σ H Q, jA K (rD K) (fC d) σ H Q → tC v σ H Q := fun _ H _ ⟨ρ, _, _, r, h⟩ => h.here r (hv ρ H)
theorem ah {i : Int} {j} : ME X (.Constant (.int i) j pos) (fC (.int i)) := PE.imp x8 (tN fun _ _ => by simp only [RD])
theorem iV {b j} : ME X (.Constant (.bool b) j pos) (fC (.bl b)) := PE.imp IT (tN fun _ _ => by simp only [RD])
theorem cG {j} : ME X (.Constant .none j pos) (fC .non) := PE.imp G7 (tN fun _ _ => by simp only [RD])
theorem lv {x : Str} {j} (l : List Nat) (h : x = toS l) : ME X (.Constant (.str x) j pos) (fC (.str l)) := PE.imp Do (tN fun _ _ => by simp only [RD]; rw [h])
theorem me2 {a b : Expr} {fa fb : EF} {r : R2} {g : O2} {e : Expr} (h : PE X e (tOp r (jA X.K (rD X.K) fa) (jA X.K (rD X.K) fb)))
    (hg : ∀ ρ H σd hd σ d k v w Q, RS X.K ρ H σd hd σ → RD X.K ρ H d v → RD X.K ρ H k w → br X.K (rD X.K) ρ H σd σ (g d k hd) Q → r v w H Q) : ME X e (ao g fa fb) := by
  refine PE.imp h fun σ H Q ⟨ρ, σd, hd, rs, p⟩ => ?_
  refine ⟨ρ, σd, hd, rs, (br.bind (R := rD X.K) p).imp fun v H1 ⟨ρ1, d, hd1, e1, rs1, rv, p1⟩ => ?_⟩
  refine ⟨ρ1, σd, hd1, rs1, (br.bind (R := rD X.K) p1).imp fun w H2 ⟨ρ2, k, hd2, e2, rs2, rw', p2⟩ => ?_⟩
  exact hg ρ2 H2 σd hd2 σ d k v w Q rs2 (rv.mono (rs1.hp.kp e2)) rw' p2
def Og (K : PySem.W.Frag) (g : O2) (r : R2) : Prop := ∀ ρ H σd hd σ d k v w Q, RS K ρ H σd hd σ → RD K ρ H d v → RD K ρ H k w → br K (rD K) ρ H σd σ (g d k hd) Q → r v w H Q
theorem aM {a b : Expr} {fa fb : EF} {op : Operator} {r : R2} {g : O2} (ho : OpR X (binaryOp op) r) (hg : Og X.K g r) (ha : ME X a fa) (hb : ME X b fb) : ME X (.BinOp a op b pos) (ao g fa fb) :=
  me2 (a := a) (b := b) (GL ho ha hb) hg
theorem ym {a b : Expr} {fa fb : EF} {op : CmpOp} {r : R2} {g : O2} (ho : OpR X (compareOp op) r) (hg : Og X.K g r) (ha : ME X a fa) (hb : ME X b fb) (hm : behindInMarks op b = false) : ME X (.Compare a [op] [b] pos) (ao g fa fb) :=
  me2 (a := a) (b := b) (Fo ho ha hb hm) hg
theorem yn {K : PySem.W.Frag} {g : Int → Int → Int} : Og K (oI g) (rI0 fun i j => .int (g i j)) := by
  intro ρ H σd hd σ d k v w Q rs rv rw' p
  cases d <;> cases k <;> first | exact p.elim | skip
  simp only [RD] at rv rw'
  exact ⟨_, _, rv, rw', p.here rs (by simp only [rD, RD])⟩
theorem m6 {K : PySem.W.Frag} {g : Int → Int → Bool} : Og K (oB g) (rI0 fun i j => .bl (g i j)) := by
  intro ρ H σd hd σ d k v w Q rs rv rw' p
  cases d <;> cases k <;> first | exact p.elim | skip
  simp only [RD] at rv rw'
  exact ⟨_, _, rv, rw', p.here rs (by simp only [rD, RD])⟩
theorem rX {K : PySem.W.Frag} {c : Int → Int → Bool} {C : Int → Int → Prop} {g : Int → Int → Int} (hc : ∀ i j, c i j = true → C i j) : Og K (oIc c g) (rI C fun i j => .int (g i j)) := by
  intro ρ H σd hd σ d k v w Q rs rv rw' p
  cases d <;> cases k <;> first | exact p.elim | skip
  rename_i i j
  simp only [RD] at rv rw'
  cases e : c i j with
  | false => simp only [oIc, e] at p; exact p.elim
  | true =>
    simp only [oIc, e, if_true] at p
    exact ⟨i, j, rv, rw', hc i j e, p.here rs (by simp only [rD, RD])⟩
theorem tO {i : Int} (h : sml i = true) : -(2 ^ 64) < i ∧ i < 2 ^ 64 := by
  simp only [sml, Bool.and_eq_true, decide_eq_true_eq] at h; exact h
theorem dD {K : PySem.W.Frag} : Og K dw (rI Fk fun i j => .int (i * j)) := rX fun i j h => by
  rcases (Bool.or_eq_true _ _).mp h with q | q
  · exact .inl (tO q)
  · exact .inr (tO q)
theorem fS {K : PySem.W.Frag} : Og K ie (rI (fun _ j => 0 < j) fun i j => .int (i % j)) := rX fun i j h => of_decide_eq_true h
def Jo (_ j : Int) : Prop := 0 < j ∧ j < 2 ^ 250
theorem vR : OpR X (binaryOp .FloorDiv) (rI Jo fun i j => .int (i / j)) := opI fun i j _ _ _ _ _ hc q => by
  have h0 : j ≠ 0 := by have := hc.1; omega
  refine PyProof.Rows.floordiv_int h0 (by rw [Int.fdiv_eq_ediv_of_nonneg _ (Int.le_of_lt hc.1)]; exact q) (.inl (PyProof.noPylong_of_log2 ?_))
  have h2 : j.natAbs < 2 ^ 250 := by have := hc.2; have := hc.1; omega
  have h3 : j.natAbs ≠ 0 := by omega
  have := (Nat.log2_lt h3).mpr h2
  omega
theorem DI {K : PySem.W.Frag} : Og K HG (rI Jo fun i j => .int (i / j)) := rX fun i j h => by
  simp only [Bool.and_eq_true, decide_eq_true_eq] at h; exact h
theorem yo {K : PySem.W.Frag} : Og K DF (rI Fi fun i j => .int (i ^ j.toNat)) := rX fun i j h => by
  simp only [Bool.and_eq_true, decide_eq_true_eq] at h
  have := tO h.2
  exact ⟨h.1.1, h.1.2, by omega⟩
theorem tP {K : PySem.W.Frag} {ρ : List Addr} {H : Hp} {d : D} {v : V} (h : RD K ρ H d v) : nM d = decide (v = .non) := by
  cases d <;> simp only [RD] at h
  · subst h; rfl
  · subst h; rfl
  · subst h; rfl
  · subst h; rfl
  · obtain ⟨p, vs, rfl, _⟩ := h; rfl
  · obtain ⟨p, vs, rfl⟩ := h; rfl
  · obtain ⟨p, vs, rfl, _⟩ := h; rfl
  · obtain ⟨_, p, vs, rfl, _⟩ := h; rfl
theorem nO {K : PySem.W.Frag} : Og K mY (fun x y H Q => y = .non ∧ Q (.bl (decide (x = .non))) H) := by
  intro ρ H σd hd σ d k v w Q rs rv rw' p
  unfold mY at p
  cases e : nM k with
  | false => rw [e] at p; exact p.elim
  | true =>
    rw [e, if_pos rfl] at p
    refine ⟨of_decide_eq_true ((tP rw').symm.trans e), ?_⟩
    rw [← tP rv]
    exact p.here rs (by simp only [rD, RD])
theorem lw {K : PySem.W.Frag} : Og K kq (fun x y H Q => y = .non ∧ Q (.bl (!decide (x = .non))) H) := by
  intro ρ H σd hd σ d k v w Q rs rv rw' p
  unfold kq at p
  cases e : nM k with
  | false => rw [e] at p; exact p.elim
  | true =>
    rw [e, if_pos rfl] at p
    refine ⟨of_decide_eq_true ((tP rw').symm.trans e), ?_⟩
    rw [← tP rv]
    exact p.here rs (by simp only [rD, RD])
theorem lx {K : PySem.W.Frag} {ρ : List Addr} {H : Hp} {σd : Sd} {σ : St} {r : Res D} {Q : Bool → Hp → Prop} (h : br K rB ρ H σd σ (asB r) Q) : br K (rD K) ρ H σd σ r (fun x H' => ∃ c, x = .bl c ∧ Q c H') := by
  refine (br.bind (R := rD K) h).imp fun v H1 ⟨ρ1, d, hd1, e1, rs1, rv, p1⟩ => ?_
  cases d <;> first | exact p1.elim | skip
  simp only [rD, RD] at rv
  exact ⟨_, rv, p1.here rs1 rfl⟩
theorem ej {e : Expr} {f : EF} (h : ME X e f) (he : ∀ whole, isTrue e X.env whole = (do let v ← whole; standAt e.pos; holding [v] (truthy v)) := by intro _; rfl) : MT X e (tE f) :=
  PT.imp (G8 h he) fun σ H Q ⟨ρ, σd, hd, rs, p⟩ => ⟨ρ, σd, hd, rs, lx p⟩
theorem a5 {a b : Expr} {fa fb : EF} {op : CmpOp} {r : R2} {g : O2} (ho : OpR X (compareOp op) r) (hg : Og X.K g r) (ha : ME X a fa) (hb : ME X b fb) (hm : behindInMarks op b = false) : MT X (.Compare a [op] [b] pos) (tE (ao g fa fb)) := by
  refine PT.imp (Fq ho ha hb hm) fun σ H Q ⟨ρ, σd, hd, rs, p⟩ => ?_
  have p := lx p
  refine ⟨ρ, σd, hd, rs, (br.bind (R := rD X.K) p).imp fun v H1 ⟨ρ1, d, hd1, e1, rs1, rv, p1⟩ => ?_⟩
  refine ⟨ρ1, σd, hd1, rs1, (br.bind (R := rD X.K) p1).imp fun w H2 ⟨ρ2, k, hd2, e2, rs2, rw', p2⟩ => ?_⟩
  exact hg ρ2 H2 σd hd2 σ d k v w _ rs2 (rv.mono (rs1.hp.kp e2)) rw' p2
theorem ig {a : Expr} {t : TF} (h : MT X a t) : MT X (.UnaryOp .Not a pos) (gl t) := by
  refine PT.imp (Hb h) fun σ H Q ⟨ρ, σd, hd, rs, p⟩ => ⟨ρ, σd, hd, rs, (br.bind (R := rB) p).imp fun c H1 ⟨ρ1, d, hd1, e1, rs1, rv, p1⟩ => ?_⟩
  cases rv
  exact p1.here rs1 rfl
theorem gH {op a} {t : TF} (h : MT X a t) (ho : op = BoolOp.And ∨ op = BoolOp.Or) : MW X (.BoolOp op [a] pos) t := by
  rcases ho with rfl | rfl
  · exact Fe h
  · exact G9 h
theorem nP {a b : Expr} {rest : List Expr} {t u : TF} (ha : MT X a t) (hb : MW X (.BoolOp .And (b :: rest) pos) u) : MW X (.BoolOp .And (a :: b :: rest) pos) (jR t u) := by
  refine PW.imp (Ha ha hb) fun σ H Q ⟨ρ, σd, hd, rs, p⟩ => ⟨ρ, σd, hd, rs, (br.bind (R := rB) p).imp fun c H1 ⟨ρ1, d, hd1, e1, rs1, rv, p1⟩ => ?_⟩
  cases rv
  cases c with
  | true => simp only [if_true] at p1 ⊢; exact ⟨ρ1, σd, hd1, rs1, p1⟩
  | false => simp only [Bool.false_eq_true, if_false] at p1 ⊢; exact p1.here rs1 rfl
theorem nQ {a b : Expr} {rest : List Expr} {t u : TF} (ha : MT X a t) (hb : MW X (.BoolOp .Or (b :: rest) pos) u) : MW X (.BoolOp .Or (a :: b :: rest) pos) (tOr t u) := by
  refine PW.imp (IU ha hb) fun σ H Q ⟨ρ, σd, hd, rs, p⟩ => ⟨ρ, σd, hd, rs, (br.bind (R := rB) p).imp fun c H1 ⟨ρ1, d, hd1, e1, rs1, rv, p1⟩ => ?_⟩
  cases rv
  cases c with
  | true => simp only [if_true] at p1 ⊢; exact p1.here rs1 rfl
  | false => simp only [Bool.false_eq_true, if_false] at p1 ⊢; exact ⟨ρ1, σd, hd1, rs1, p1⟩
theorem MW.mt {e : Expr} {t : TF} (h : MW X e t) : MT X e t := h.pt
theorem FE {K : PySem.W.Frag} {t : TF} {σ : St} {H : Hp} {Q : VK} (h : jA K (rD K) (fT t) σ H Q) : jA K rB t σ H (fun b H' => Q (.bl b) H') := by
  obtain ⟨ρ, σd, hd, rs, p⟩ := h
  refine ⟨ρ, σd, hd, rs, (br.bind (R := rB) p).imp fun c H1 ⟨ρ1, d, hd1, e1, rs1, rv, p1⟩ => ?_⟩
  cases rv
  exact p1.here rs1 (by simp only [rD, RD])
def MB (X : Cx) (e : Expr) (t : TF) : Prop := PE X e (fun σ H Q => jA X.K rB t σ H fun b H' => Q (.bl b) H')
theorem MB.me {e : Expr} {t : TF} (h : MB X e t) : ME X e (fT t) := PE.imp h fun _ _ _ q => FE q
theorem A8 {e : Expr} {f : EF} (h : ME X e f) : MB X e (tE f) := by
  refine PE.imp h fun σ H Q ⟨ρ, σd, hd, rs, p⟩ => ⟨ρ, σd, hd, rs, (lx p).imp ?_⟩
  rintro v H1 ⟨c, rfl, q⟩
  exact q
theorem DJ {op a} {t : TF} (h : MB X a t) : MB X (.BoolOp op [a] pos) t := Hc h
theorem DK {a b : Expr} {rest : List Expr} {t u : TF} (ha : MB X a t) (hb : MB X (.BoolOp .And (b :: rest) pos) u) : MB X (.BoolOp .And (a :: b :: rest) pos) (jR t u) := by
  refine PE.imp (He ha hb) fun σ H Q ⟨ρ, σd, hd, rs, p⟩ => ⟨ρ, σd, hd, rs, (br.bind (R := rB) p).imp fun c H1 ⟨ρ1, d, hd1, e1, rs1, rv, p1⟩ => ⟨c, rfl, ?_⟩⟩
  cases rv
  cases c with
  | true => simp only [if_true] at p1 ⊢; exact ⟨ρ1, σd, hd1, rs1, p1⟩
  | false => simp only [Bool.false_eq_true, if_false] at p1 ⊢; exact p1.here rs1 rfl
theorem HI {a : Expr} {t : TF} (h : MB X a t) : MB X (.UnaryOp .Not a pos) (gl t) := by
  refine PE.imp (Hf h) fun σ H Q ⟨ρ, σd, hd, rs, p⟩ => ⟨ρ, σd, hd, rs, (br.bind (R := rB) p).imp fun c H1 ⟨ρ1, d, hd1, e1, rs1, rv, p1⟩ => ⟨c, rfl, ?_⟩⟩
  cases rv
  exact p1.here rs1 rfl
theorem Jp {c a b : Expr} {t : TF} {fa fb : EF} (hc : MT X c t) (ha : ME X a fa) (hb : ME X b fb) : ME X (.IfExp c a b pos) (fIf t fa fb) := by
  refine PE.imp (Dp hc ha hb) fun σ H Q ⟨ρ, σd, hd, rs, p⟩ => ⟨ρ, σd, hd, rs, (br.bind (R := rB) p).imp fun c H1 ⟨ρ1, d, hd1, e1, rs1, rv, p1⟩ => ?_⟩
  cases rv
  cases c with
  | true => simp only [if_true] at p1 ⊢; exact ⟨ρ1, σd, hd1, rs1, p1⟩
  | false => simp only [Bool.false_eq_true, if_false] at p1 ⊢; exact ⟨ρ1, σd, hd1, rs1, p1⟩
end
end Fm
set_option Elab.async false
set_option linter.all false
set_option maxRecDepth 100000
namespace Fm
open PySem PySem.Spec L2
section
variable {X : Cx} {pos : Pos}
theorem yp {K : PySem.W.Frag} {ρ : List Addr} {H : Hp} {σd : Sd} {hd : Hd} {σ : St} {r r' : R2} {g k : O2} {fa fb fc : EF} {Q : VK} (hg : Og K g r) (hk : Og K k r') (rs : RS K ρ H σd hd σ)
    (p : br K (rD K) ρ H σd σ (nN g k fa fb fc σd hd) Q) : Dy r r' (jA K (rD K) fa) (jA K (rD K) fb) (jA K (rD K) fc) σ H Q := by
  refine ⟨ρ, σd, hd, rs, (br.bind (R := rD K) p).imp fun v H1 ⟨ρ1, d, hd1, e1, rs1, rv, p1⟩ => ?_⟩
  refine ⟨ρ1, σd, hd1, rs1, (br.bind (R := rD K) p1).imp fun w H2 ⟨ρ2, d2, hd2, e2, rs2, rw2, p2⟩ => ?_⟩
  refine hg ρ2 H2 σd hd2 σ d d2 v w _ rs2 (rv.mono (rs1.hp.kp e2)) rw2 ((br.bind (R := rD K) p2).imp fun z H3 ⟨ρ3, d3, hd3, e3, rs3, rz, p3⟩ => ?_)
  cases d3 <;> first | exact p3.elim | skip
  rename_i b
  simp only [rD, RD] at rz
  refine ⟨b, rz, ?_⟩
  cases b with
  | false =>
    rw [if_neg Bool.false_ne_true]
    exact p3.here rs3 (by simp only [rD, RD])
  | true =>
    rw [if_pos rfl]
    refine ⟨ρ3, σd, hd3, rs3, (br.bind (R := rD K) p3).imp fun u H4 ⟨ρ4, d4, hd4, e4, rs4, ru, p4⟩ => ?_⟩
    exact hk ρ4 H4 σd hd4 σ d2 d4 w u Q rs4 ((rw2.mono (rs2.hp.kp e3)).mono (rs3.hp.kp e4)) ru p4
theorem DM {a b c : Expr} {fa fb fc : EF} {op op' : CmpOp} {r r' : R2} {g k : O2} (ho : OpR X (compareOp op) r) (ho' : OpR X (compareOp op') r') (hg : Og X.K g r) (hk : Og X.K k r') (ha : ME X a fa) (hb : ME X b fb) (hc : ME X c fc)
    (hm : lastMarks [op, op'] [b, c] = false := by with_unfolding_all rfl) : ME X (.Compare a [op, op'] [b, c] pos) (nN g k fa fb fc) :=
  PE.imp (Dz ho ho' ha hb hc hm) fun _ _ _ ⟨_, _, _, rs, p⟩ => yp hg hk rs p
theorem am : MA X [] av := PA.imp cD fun _ _ _ ⟨_, _, _, rs, p⟩ => p.here rs RDs.nil
theorem ae {e : Expr} {es : List Expr} {f : EF} {r : LF} (he : ME X e f) (hr : MA X es r) (hs : starEach (e :: es) X.env = (false, eval e X.env) :: starEach es X.env := by rfl) : MA X (e :: es) (af f r) := by
  refine PA.imp (bG he hr hs) fun σ H Q ⟨ρ, σd, hd, rs, p⟩ => ?_
  refine ⟨ρ, σd, hd, rs, (br.bind (R := rD X.K) p).imp fun v H1 ⟨ρ1, d, hd1, e1, rs1, rv, p1⟩ => ?_⟩
  refine ⟨ρ1, σd, hd1, rs1, (br.bind (R := rDs X.K) p1).imp fun vs H2 ⟨ρ2, ds, hd2, e2, rs2, rvs, p2⟩ => ?_⟩
  exact p2.here rs2 (RDs.cons (rv.mono (rs1.hp.kp e2)) rvs)
theorem ku {n : Nat} (h : n ≤ SZ) : n ≤ sizeLine := Nat.le_trans h (by show 1000000 ≤ 2 ^ 24; decide)
theorem dE {es : List Expr} {k} {r : LF} (h : MA X es r) : ME X (.Tuple es k pos) (eW r) := by
  refine PE.imp (DA h) fun σ H Q ⟨ρ, σd, hd, rs, p⟩ => ?_
  refine ⟨ρ, σd, hd, rs, (br.bind (R := rDs X.K) p).imp fun vs H1 ⟨ρ1, ds, hd1, e1, rs1, rvs, p1⟩ => ?_⟩
  by_cases hz : ds.length ≤ SZ
  · rw [if_pos hz] at p1
    refine ⟨by rw [← rvs.length]; exact ku hz, fun q hq => ?_⟩
    have sm := bT (o := HO.tup vs) hq
    exact p1.at (Ext.same sm) (rs1.same sm) (by simp only [rD, RD]; exact ⟨q, vs, rfl, bh, rvs.mono (Kp.same sm)⟩)
  · rw [if_neg hz] at p1; exact p1.elim
theorem Ext.fresh {ρ ρ' : List Addr} {H H' : Hp} {q : Addr} (e : Ext ρ H ρ' H') (h : H' q = none) (n : q ∉ ρ') : H q = none := by
  cases z : H q with
  | none => rfl
  | some o =>
    by_cases hq : q ∈ ρ
    · obtain ⟨t, rfl⟩ := e.pre
      exact absurd (List.mem_append_left t hq) n
    · rw [e.frame q o z hq] at h; cases h
theorem RH.free {K : PySem.W.Frag} {ρ : List Addr} {H : Hp} {hd : Hd} (r : RH K ρ H hd) {q : Addr} (h : H q = none) : q ∉ ρ := fun z => by
  rcases r.mut z with ⟨_, e⟩ | ⟨_, e⟩ <;> (rw [h] at e; cases e)
theorem A7.mk {K : PySem.W.Frag} {ρ ρ1 : List Addr} {H H1 : Hp} {hd1 : Hd} {σd : Sd} {σ : St} {l : List D} {vs : List V} {Q : VK} (p : A7 K ρ H σd σ (.ok l hd1) Q) (e1 : Ext ρ H ρ1 H1) (rs1 : RS K ρ1 H1 σd hd1 σ) (r : RDs K ρ1 H1 l vs) :
    ∀ q, H1 q = none → Q (.ref q) (upd H1 q (.lst vs)) := fun q hq => by
  have sm := bT (o := HO.lst vs) hq
  have nq := rs1.hp.free hq
  exact p q vs _ ρ1 (e1.trans (Ext.same sm)) (rs1.same sm) (e1.fresh hq nq) bh nq (r.mono (Kp.same sm))
theorem cf {es : List Expr} {r : LF} (h : MA X es r) (hz : ∀ σd hd ds hd', r σd hd = .ok ds hd' → ds.length ≤ SZ) : MF X (.List es pos) r := by
  refine PE.imp (Hu h) fun σ H Q ⟨ρ, σd, hd, rs, p⟩ => ?_
  refine ⟨ρ, σd, hd, rs, ?_⟩
  cases e : r σd hd with
  | exc x h' => rw [e] at p; exact p
  | bad => rw [e] at p; exact p
  | ok ds hd1 =>
    rw [e] at p
    intro vs H1 ρ1 e1 rs1 rvs
    exact ⟨by rw [← RDs.length rvs]; exact ku (hz _ _ _ _ e), p.mk e1 rs1 rvs⟩
theorem aA {f : EF} {r : LF} {n : Nat} (h : ∀ σd hd ds hd', r σd hd = .ok ds hd' → ds.length = n) : ∀ σd hd ds hd', af f r σd hd = .ok ds hd' → ds.length = n + 1 := by
  intro σd hd ds hd' e
  simp only [af] at e
  cases e1 : f σd hd with
  | exc x h' => rw [e1] at e; cases e
  | bad => rw [e1] at e; cases e
  | ok d h1 =>
    rw [e1] at e
    simp only [aQ] at e
    cases e2 : r σd h1 with
    | exc x h' => rw [e2] at e; cases e
    | bad => rw [e2] at e; cases e
    | ok ds2 h2 =>
      rw [e2] at e
      simp only [aQ] at e
      cases e
      simp [h _ _ _ _ e2]
theorem bj : ∀ σd hd ds hd', av σd hd = .ok ds hd' → ds.length = 0 := by
  intro σd hd ds hd' e
  simp only [av] at e
  cases e
  rfl
theorem bJ {e : Expr} {r : LF} (h : MF X e r) : ME X e (bo r) := by
  refine PE.imp h fun σ H Q ⟨ρ, σd, hd, rs, p⟩ => ⟨ρ, σd, hd, rs, ?_⟩
  unfold bo at p
  cases e : r σd hd with
  | exc x h' => rw [e] at p; exact p
  | bad => rw [e] at p; exact p
  | ok ds hd1 =>
    rw [e] at p
    simp only [aQ] at p
    intro q vs H1 ρ1 e1 rs1 hq0 hq hn rvs
    by_cases hz : ds.length ≤ SZ
    · rw [if_pos hz] at p
      have rh := rs1.hp.alloc hq hn rvs
      have ex : Ext ρ H (ρ1 ++ [q]) H1 := ⟨by obtain ⟨t, rfl⟩ := e1.pre; exact ⟨t ++ [q], by simp⟩, fun a ha => by
        rcases List.mem_append.mp ha with z | z
        · exact e1.new a z
        · simp at z; subst z; exact .inr hq0, e1.frame⟩
      refine p.at ex (rs.ext ex rh) ?_
      simp only [rD, RD]
      refine ⟨q, ?_, rfl⟩
      rw [← rs1.hp.len]
      simp
    · rw [if_neg hz] at p; exact p.elim
theorem gI {e : Expr} {r : LF} (h : MF X e r) : MQ X e r := by
  refine PE.imp h fun σ H Q ⟨ρ, σd, hd, rs, p⟩ => ⟨ρ, σd, hd, rs, ?_⟩
  cases e : r σd hd with
  | exc x h' => rw [e] at p; exact p
  | bad => rw [e] at p; exact p
  | ok ds hd1 =>
    rw [e] at p
    intro q vs H1 ρ1 e1 rs1 hq0 hq hn rvs
    exact p (.ref q) H1 ρ1 e1 rs1 ⟨q, vs, rfl, .inl (SqL.of hq), rvs⟩
theorem mz.sq {K : PySem.W.Frag} {H : Hp} {a : Addr} {xs : List V} (h : mz K H a xs) : SqL K H a xs := by
  rcases h with ⟨o, h⟩ | h
  · exact .inl (.inr ⟨o, h⟩)
  · exact .inr h
theorem tQ {K : PySem.W.Frag} {ρ : List Addr} {H : Hp} {hd : Hd} {d : D} {v : V} {l : List D} (r : RH K ρ H hd) (h : RD K ρ H d v) (e : gW hd d = some l) : ∃ p vs, v = .ref p ∧ (SqL K H p vs ∨ H p = some (.tup vs)) ∧ RDs K ρ H l vs := by
  cases d <;> simp only [gW] at e <;> try (cases e; done)
  · cases e
    simp only [RD] at h
    obtain ⟨p, vs, e1, e2, e3⟩ := h
    exact ⟨p, vs, e1, .inr e2, e3⟩
  · rename_i n
    simp only [RD] at h
    obtain ⟨a, e1, e2⟩ := h
    cases c : hd[n]? with
    | none => rw [c] at e; cases e
    | some x =>
      rw [c] at e
      cases x with
      | dct l => cases e
      | lst l' =>
        cases e
        obtain ⟨vs, q1, q2⟩ := r.cel n _ a c e1
        exact ⟨a, vs, e2, .inl (SqL.of q1), q2⟩
  · cases e
    simp only [RD] at h
    obtain ⟨p, vs, e1, e2, e3⟩ := h
    exact ⟨p, vs, e1, .inl e2.sq, e3⟩
theorem cL {e : Expr} {f : EF} (h : ME X e f) : MQ X e (lOf f) := by
  refine PE.imp h fun σ H Q ⟨ρ, σd, hd, rs, p⟩ => ⟨ρ, σd, hd, rs, (br.bind (R := rD X.K) p).imp fun v H1 ⟨ρ1, d, hd1, e1, rs1, rv, p1⟩ => ?_⟩
  cases e : gW hd1 d with
  | none => rw [e] at p1; exact p1.elim
  | some l => rw [e] at p1; exact p1.here rs1 (tQ rs1.hp rv e)
theorem A9 {K : PySem.W.Frag} {ρ : List Addr} {H : Hp} {l : List D} {vs : List V} {i : Int} {d : D} (r : RDs K ρ H l vs) (e : atI l i = some d) : ∃ v, L2.atI vs i = some v ∧ RD K ρ H d v := by
  unfold atI at e
  unfold L2.atI
  have hl := r.length
  have hx : ixN l.length i = L2.ixN vs.length i := by rw [hl]; rfl
  rw [hx] at e
  cases c : L2.ixN vs.length i with
  | none => rw [c] at e; cases e
  | some j =>
    rw [c] at e
    simp only [Option.bind_some] at e ⊢
    exact r.get e
theorem bg {a b : Expr} {fa fb : EF} (ha : ME X a fa) (hb : ME X b fb) (hs : tH b) : ME X (.Subscript a b pos) (fAt fa fb) := by
  refine me2 (a := a) (b := b) (g := oAt) (GP HA ha hb hs) fun ρ H σd hd σ d k v w Q rs rv rw' p => ?_
  unfold oAt at p
  cases e : gW hd d with
  | none => rw [e] at p; exact p.elim
  | some l =>
    rw [e] at p
    cases k <;> first | exact p.elim | skip
    rename_i i
    simp only at p
    cases e2 : atI l i with
    | none => rw [e2] at p; exact p.elim
    | some x =>
      rw [e2] at p
      simp only [RD] at rw'
      obtain ⟨q, vs, hv, sq, rvs⟩ := tQ rs.hp rv e
      obtain ⟨u, hu, ru⟩ := A9 rvs e2
      rcases sq with sq | sq
      · exact .inl ⟨q, vs, i, u, hv, rw', sq, hu, p.here rs ru⟩
      · exact .inr (.inl ⟨q, vs, i, u, hv, rw', SqT.of sq, hu, p.here rs ru⟩)
theorem rY {a b : Expr} {la : LF} {fb : EF} (ha : MF X a la) (hb : ME X b fb) (hs : tH b) : ME X (.Subscript a b pos) (fIx la fb) := by
  refine PE.imp (GP A4 ha hb hs) fun σ H Q ⟨ρ, σd, hd, rs, p⟩ => ⟨ρ, σd, hd, rs, ?_⟩
  unfold fIx at p
  cases e : la σd hd with
  | exc x h' => rw [e] at p; exact p
  | bad => rw [e] at p; exact p
  | ok l hd1 =>
    rw [e] at p
    simp only [aQ] at p
    intro q vs H1 ρ1 e1 rs1 hq0 hq hn rvs
    refine ⟨ρ1, σd, hd1, rs1, (br.bind (R := rD X.K) (p.ext e1)).imp fun w H2 ⟨ρ2, k, hd2, e2, rs2, rw', p2⟩ => ?_⟩
    cases k <;> first | exact p2.elim | skip
    rename_i i
    simp only at p2
    cases e3 : atI l i with
    | none => rw [e3] at p2; exact p2.elim
    | some x =>
      rw [e3] at p2
      simp only [rD, RD] at rw'
      obtain ⟨u, hu, ru⟩ := A9 (rvs.mono (rs1.hp.kp e2)) e3
      exact ⟨q, vs, i, u, rfl, rw', SqL.of (e2.frame q _ hq hn), hu, p2.here rs2 ru⟩
end
end Fm
set_option Elab.async false
set_option linter.all false
set_option maxRecDepth 100000
namespace Fm
open PySem PySem.Spec L2
section
variable {X : Cx} {pos : Pos}
def B1 (X : Cx) (r : List V → Hp → VK → Prop) (x : Str) (p pos : Pos) (a : Expr) : Prop := ∀ t, PA X [a] t → PE X (.Call (.Name x p) [a] [] pos) (tCB r t)
theorem GS {x : Str} {p : Pos} {a : Expr} {id : String} {r : List V → Hp → VK → Prop} (hc : gp X (.builtin id) r) (hg : Gl X x) (hm : X.mg x = none) (hv : bootBuiltins x = some (.builtin id)) (hn : x ≠ "__name__" := by decide) (hdb : (x == ("__debug__" : Str)) = false := by decide)
    (he : starEach [a] X.env = (false, eval a X.env) :: starEach [] X.env := by rfl) : B1 X r x p pos a := fun _ ha => gS hc hg hm hv ha hn hdb he
theorem GT {x : Str} {p : Pos} {a : Expr} {T : String} {r : List V → Hp → VK → Prop} (hc : gp X (.type T) r) (hg : Gl X x) (hm : X.mg x = none) (hv : bootBuiltins x = some (.type T)) (hn : x ≠ "__name__" := by decide) (hdb : (x == ("__debug__" : Str)) = false := by decide)
    (he : starEach [a] X.env = (false, eval a X.env) :: starEach [] X.env := by rfl) : B1 X r x p pos a := fun _ ha => rS hc hg hm hv ha hn hdb he
theorem yq {x : Str} {p : Pos} {a : Expr} {la : LF} {r : List V → Hp → VK → Prop} {g : List D → Hd → Res D} (hb : B1 X r x p pos a) (ha : MQ X a la)
    (hg : ∀ ρ H σd hd σ l q vs Q, RS X.K ρ H σd hd σ → (SqL X.K H q vs ∨ H q = some (.tup vs)) → RDs X.K ρ H l vs → br X.K (rD X.K) ρ H σd σ (g l hd) Q → r [.ref q] H Q)
    (hs : starEach [a] X.env = (false, eval a X.env) :: starEach [] X.env := by rfl) : ME X (.Call (.Name x p) [a] [] pos) (fun σ h => (la σ h).bind fun l h => g l h) := by
  refine PE.imp (hb _ (bG ha cD hs)) fun σ H Q ⟨ρ, σd, hd, rs, pp⟩ => ⟨ρ, σd, hd, rs, (br.bind (R := rQ X.K) pp).imp fun v H1 ⟨ρ1, l, hd1, e1, rs1, ⟨q, vs, hv, sq, rvs⟩, p1⟩ => ?_⟩
  subst hv
  exact hg ρ1 H1 σd hd1 σ l q vs Q rs1 sq rvs p1
theorem Jq {x : Str} {p : Pos} {a : Expr} {fa : EF} {r : List V → Hp → VK → Prop} {g : D → Hd → Res D} (hb : B1 X r x p pos a) (ha : ME X a fa)
    (hg : ∀ ρ H σd hd σ d v Q, RS X.K ρ H σd hd σ → RD X.K ρ H d v → br X.K (rD X.K) ρ H σd σ (g d hd) Q → r [v] H Q)
    (hs : starEach [a] X.env = (false, eval a X.env) :: starEach [] X.env := by rfl) : ME X (.Call (.Name x p) [a] [] pos) (fun σ h => (fa σ h).bind fun x h => g x h) := by
  refine PE.imp (hb _ (bG ha cD hs)) fun σ H Q ⟨ρ, σd, hd, rs, pp⟩ => ⟨ρ, σd, hd, rs, (br.bind (R := rD X.K) pp).imp fun v H1 ⟨ρ1, d, hd1, e1, rs1, rv, p1⟩ => ?_⟩
  exact hg ρ1 H1 σd hd1 σ d v Q rs1 rv p1
theorem d5 {p : Pos} {a : Expr} {la : LF} (hg : Gl X "len") (hm : X.mg "len" = none) (ha : MQ X a la) (hs : starEach [a] X.env = (false, eval a X.env) :: starEach [] X.env := by rfl) : ME X (.Call (.Name "len" p) [a] [] pos) (ei la) :=
  yq (g := fun l h => .ok (.int l.length) h) (GS tK hg hm PySem.boot_len (he := hs)) ha (fun ρ H σd hd σ l q vs Q rs sq rvs p => ⟨q, vs, rfl, sq.imp id SqT.of, by rw [← rvs.length]; exact p.here rs (by simp only [rD, RD])⟩) hs
theorem d8 {p : Pos} {a : Expr} {la : LF} (hg : Gl X "tuple") (hm : X.mg "tuple" = none) (ha : MQ X a la) (hs : starEach [a] X.env = (false, eval a X.env) :: starEach [] X.env := by rfl) : ME X (.Call (.Name "tuple" p) [a] [] pos) (cK la) := by
  refine yq (g := fun l h => .ok (.tup l) h) (GT pL hg hm (by decide +kernel) (he := hs)) ha (fun ρ H σd hd σ l q vs Q rs sq rvs p => ⟨q, vs, rfl, ?_⟩) hs
  rcases sq with sq | sq
  · refine .inl ⟨sq, fun q' hq => ?_⟩
    have sm := bT (o := HO.tup vs) hq
    exact p.at (Ext.same sm) (rs.same sm) (by simp only [rD, RD]; exact ⟨q', vs, rfl, bh, rvs.mono (Kp.same sm)⟩)
  · exact .inr ⟨SqT.of sq, p.here rs (by simp only [rD, RD]; exact ⟨q, vs, rfl, sq, rvs⟩)⟩
theorem Ba {p : Pos} {a : Expr} {fa : EF} (hg : Gl X "int") (hm : X.mg "int" = none) (ha : ME X a fa) (hs : starEach [a] X.env = (false, eval a X.env) :: starEach [] X.env := by rfl) : ME X (.Call (.Name "int" p) [a] [] pos) (DG fa) := by
  refine Jq (g := fun x h => match x with | .int i => .ok (.int i) h | .bl b => .ok (.int (b2i b)) h | _ => .bad) (GT BU hg hm (by decide +kernel) (he := hs)) ha (fun ρ H σd hd σ d v Q rs rv p => ?_) hs
  cases d <;> first | exact p.elim | skip
  · simp only [RD] at rv; subst rv
    exact .inr ⟨_, rfl, p.here rs (by simp only [rD, RD]; rfl)⟩
  · simp only [RD] at rv; subst rv
    exact .inl ⟨_, rfl, p.here rs (by simp only [rD, RD])⟩
theorem vS (ns : List Int) : PySem.preSum (fun i => ns.getD i 0) ns.length = ns.sum := by
  have key : ∀ k, k ≤ ns.length → PySem.preSum (fun i => ns.getD i 0) k = (ns.take k).sum := by
    intro k
    induction k with
    | zero => intro _; simp [PySem.preSum]
    | succ k ih =>
      intro hk
      rw [PySem.preSum, ih (by omega), List.take_add_one, List.getElem?_eq_getElem (by omega), List.sum_append]
      simp [List.getD, List.getElem?_eq_getElem (show k < ns.length by omega)]
  rw [key _ (Nat.le_refl _), List.take_length]
theorem Bb {its : List Value} {ns : List Int} (r : aP (ns.map V.int) its) (i : Nat) (v : Value) (h : its.toArray[i]? = some v) : ∃ t, v = .int (ns.getD i 0) t := by
  have h' : its[i]? = some v := by simpa using h
  have hl := r.length
  have hi : i < its.length := (List.getElem?_eq_some_iff.mp h').1
  have hn : i < ns.length := by rw [← hl] at hi; simpa using hi
  obtain ⟨u, hu, ru⟩ := r.get (i := i) (x := .int ns[i]) (by simp [hn])
  rw [h'] at hu
  cases hu
  obtain ⟨t, e⟩ := ru
  exact ⟨t, by rw [e]; simp [List.getD, hn]⟩
theorem BZ (hc : X.calm = true) : gp X (.builtin "sum") (fun xs H Q => ∃ (p : Addr) (ns : List Int), xs = [.ref p] ∧ (SqL X.K H p (ns.map V.int) ∨ SqT X.K H p (ns.map V.int)) ∧ Q (.int ns.sum) H) := by
  intro pins s σ H xs us Q I r q
  obtain ⟨p, ns, rfl, sq, q⟩ := q
  obtain ⟨u, rfl, ru⟩ := aP.one r
  cases (show u = Value.ref p from ru)
  have fin : ∀ {it : Obj} {h' : Heap} {tk : Nat} {t' : Tok} {n : Nat}, n = ns.length → (∀ b o, b ∉ [s.heap.objs.size] → (s.heap.push it).get? b = some o → h'.get? b = some o) → EP X pins σ Q (.int (PySem.preSum (fun i => ns.getD i 0) n) t') { s with heap := h', toks := tk } := by
    intro it h' tk t' n hn hk
    subst hn
    refine ⟨.int ns.sum, H, I.kept (t' := tk) fun b o e => hk b o (by simp; exact Nat.ne_of_lt (Heap.lt_size e)) (Heap.get?_push_of_some _ e), ⟨t', by rw [vS]⟩, q⟩
  have hA : (X.A.in1).handled = none := I.ok.hd hc
  rcases sq with sq | sq
  · obtain ⟨its, rv, pl, hz⟩ := I.list sq
    have il : s.heap.IsList p its.toArray := pl.isList
    have hlt : p < s.heap.objs.size := by obtain ⟨o, ho, _⟩ := il; exact Heap.lt_size ho
    refine PySem.call_sum_walkG (PySem.wpAny_pyIter_list il ?_)
    refine ⟨s.heap.objs.size, _, [s.heap.objs.size], _, _, _, fun i => ns.getD i 0, rfl, PySem.Walks.list hA s.heap.objs.size p (Nat.ne_of_lt hlt) its.toArray, ⟨⟨_, Heap.get?_push_size _ rfl, rfl, rfl⟩, ?_⟩, ?_, Bb rv, ?_⟩
    · obtain ⟨o, ho, r⟩ := il; exact ⟨o, Heap.get?_push_of_some _ ho, r⟩
    · intro b hb
      rcases List.mem_cons.mp hb with rfl | hb
      · rw [Heap.size_push]; exact Nat.lt_succ_self _
      · simp at hb; subst hb; rw [Heap.size_push]; exact Nat.lt_succ_of_lt hlt
    · exact fun h' tk t' hk => fin (by simpa using rv.length.symm) hk
  · obtain ⟨its, rv, pl, hz⟩ := I.tuple sq
    have il : s.heap.IsTuple p its.toArray := pl
    have hlt : p < s.heap.objs.size := by obtain ⟨o, ho, _⟩ := il; exact Heap.lt_size ho
    refine PySem.call_sum_walkG (PySem.wpAny_pyIter_tuple il ?_)
    refine ⟨s.heap.objs.size, _, [s.heap.objs.size], _, _, _, fun i => ns.getD i 0, rfl, PySem.Walks.tuple hA s.heap.objs.size p (Nat.ne_of_lt hlt) its.toArray, ⟨⟨_, Heap.get?_push_size _ rfl, rfl, rfl⟩, ?_⟩, ?_, Bb rv, ?_⟩
    · obtain ⟨o, ho, r⟩ := il; exact ⟨o, Heap.get?_push_of_some _ ho, r⟩
    · intro b hb
      rcases List.mem_cons.mp hb with rfl | hb
      · rw [Heap.size_push]; exact Nat.lt_succ_self _
      · simp at hb; subst hb; rw [Heap.size_push]; exact Nat.lt_succ_of_lt hlt
    · exact fun h' tk t' hk => fin (by simpa using rv.length.symm) hk
theorem nR {K : PySem.W.Frag} {ρ : List Addr} {H : Hp} : ∀ {l : List D} {vs : List V} {is : List Int}, RDs K ρ H l vs → gq l = some is → vs = is.map V.int
  | [], _, is, r, e => by simp only [gq] at e; cases e; simp only [RDs] at r; subst r; rfl
  | d :: l, _, is, r, e => by
    simp only [RDs] at r
    obtain ⟨v, vs, rfl, h1, h2⟩ := r
    cases d <;> simp only [gq] at e <;> try (cases e; done)
    rename_i i
    cases c : gq l with
    | none => rw [c] at e; cases e
    | some js =>
      rw [c] at e
      cases e
      simp only [RD] at h1
      rw [h1, nR h2 c]
      rfl
theorem tR {p : Pos} {a : Expr} {la : LF} (hc : X.calm = true) (hg : Gl X "sum") (hm : X.mg "sum" = none) (ha : MQ X a la) (hs : starEach [a] X.env = (false, eval a X.env) :: starEach [] X.env := by rfl) : ME X (.Call (.Name "sum" p) [a] [] pos) (kr la) := by
  refine yq (g := fun l h => match gq l with | some is => .ok (.int is.sum) h | none => .bad) (GS (BZ hc) hg hm (by decide +kernel) (he := hs)) ha (fun ρ H σd hd σ l q vs Q rs sq rvs p => ?_) hs
  cases c : gq l with
  | none => simp only [c] at p; exact p.elim
  | some is =>
    simp only [c] at p
    have e := nR rvs c
    subst e
    exact ⟨q, is, rfl, sq.imp id SqT.of, p.here rs (by simp only [rD, RD])⟩
end
end Fm
set_option Elab.async false
set_option linter.all false
set_option maxRecDepth 100000
namespace Fm
open PySem PySem.Spec L2
section
variable {K : PySem.W.Frag} {ρ : List Addr} {H : Hp}
mutual
theorem vT : ∀ {d k : D} {v : V} {b : Bool}, RD K ρ H d v → RD K ρ H k v → peq d k = some b → b = true
  | .int i, k, v, b, h1, h2, e => by
    simp only [RD] at h1; subst h1
    cases k <;> simp only [RD] at h2 <;> try (cases h2; done)
    all_goals first
      | (cases h2; simp only [peq] at e; simpa using e.symm)
      | (obtain ⟨_, _, z, _⟩ := h2; cases z; done)
      | (obtain ⟨_, _, z⟩ := h2; cases z; done)
      | (obtain ⟨_, _, _, z, _⟩ := h2; cases z; done)
  | .bl i, k, v, b, h1, h2, e => by
    simp only [RD] at h1; subst h1
    cases k <;> simp only [RD] at h2 <;> try (cases h2; done)
    all_goals first
      | (cases h2; simp only [peq] at e; simpa using e.symm)
      | (obtain ⟨_, _, z, _⟩ := h2; cases z; done)
      | (obtain ⟨_, _, z⟩ := h2; cases z; done)
      | (obtain ⟨_, _, _, z, _⟩ := h2; cases z; done)
  | .str x, k, v, b, h1, h2, e => by
    simp only [RD] at h1; subst h1
    cases k <;> simp only [RD] at h2 <;> try (cases h2; done)
    all_goals first
      | (simp only [peq] at e; simp only [toS, V.str.injEq, PySem.Str.mk.injEq] at h2; have h3 := congrArg Array.toList h2; simp at h3; subst h3; simpa using e.symm)
      | (obtain ⟨_, _, z, _⟩ := h2; cases z; done)
      | (obtain ⟨_, _, z⟩ := h2; cases z; done)
      | (obtain ⟨_, _, _, z, _⟩ := h2; cases z; done)
  | .non, k, v, b, h1, h2, e => by
    simp only [RD] at h1; subst h1
    cases k <;> simp only [RD] at h2 <;> try (cases h2; done)
    all_goals first
      | (simp only [peq] at e; simpa using e.symm)
      | (obtain ⟨_, _, z, _⟩ := h2; cases z; done)
      | (obtain ⟨_, _, z⟩ := h2; cases z; done)
      | (obtain ⟨_, _, _, z, _⟩ := h2; cases z; done)
  | .tup xs, k, v, b, h1, h2, e => by
    simp only [RD] at h1
    obtain ⟨p, vs, rfl, hp, r1⟩ := h1
    cases k <;> simp only [peq] at e <;> try (cases e; done)
    · simp only [RD] at h2; cases h2
    · simp only [RD] at h2; cases h2
    · rename_i ys
      simp only [RD] at h2
      obtain ⟨p', vs', z, hp', r2⟩ := h2
      cases z
      rw [hp] at hp'; cases hp'
      cases c : gF xs ys with
      | none => rw [c] at e; cases e
      | some b' =>
        rw [c] at e
        simp only [Option.map_some, Option.some.injEq] at e
        have := rZ r1 r2 c
        subst this
        rw [← e, r1.length, r2.length]
        simp
  | .ref n, k, v, b, h1, h2, e => by cases k <;> simp only [peq] at e <;> cases e
  | .lit l, k, v, b, h1, h2, e => by cases k <;> simp only [peq] at e <;> cases e
  | .exn c l, k, v, b, h1, h2, e => by simp only [peq] at e <;> cases e
theorem rZ : ∀ {xs ys : List D} {vs : List V} {b : Bool}, RDs K ρ H xs vs → RDs K ρ H ys vs → gF xs ys = some b → b = true
  | [], _, _, _, _, _, e => by simp only [gF] at e; cases e; rfl
  | x :: xs, [], _, _, _, _, e => by simp only [gF] at e; cases e; rfl
  | x :: xs, y :: ys, _, b, h1, h2, e => by
    simp only [RDs] at h1 h2
    obtain ⟨v, r, rfl, a1, a2⟩ := h1
    obtain ⟨v', r', z, b1, b2⟩ := h2
    cases z
    simp only [gF] at e
    cases c : peq x y with
    | none => rw [c] at e; cases e
    | some p =>
      cases c2 : gF xs ys with
      | none => rw [c, c2] at e; cases e
      | some q =>
        rw [c, c2] at e
        simp only [Option.some.injEq] at e
        rw [← e, vT a1 b1 c, rZ a2 b2 c2]; rfl
end
end
section
variable {K : PySem.W.Frag} {ρ : List Addr} {H : Hp} {P : Program} {w : World} {s : Shared}
theorem ii (hok : HOk P w H s.heap) {p : Addr} {vs : List V} (h : H p = some (.tup vs)) : ∃ its : List Value, aP vs its ∧ s.heap.IsTuple p its.toArray := by
  obtain ⟨z, its, r, t⟩ := hok p _ h
  exact ⟨its, r, t⟩
mutual
theorem HJ (hok : HOk P w H s.heap) : ∀ {d k : D} {v v' : V} {u u' : Value} {b : Bool} {A : Around}, RD K ρ H d v → RD K ρ H k v' → bK v u → bK v' u' → peq d k = some b → A.units + dep d < cLine → SeqAt.EqAt A s u u' b
  | .int i, k, v, v', u, u', b, A, h1, h2, r1, r2, e, hu => by
    simp only [RD] at h1; subst h1
    obtain ⟨t, rfl⟩ := r1
    cases k <;> simp only [peq] at e <;> try (cases e; done)
    all_goals cases e
    · simp only [RD] at h2; subst h2; cases r2; exact SeqAt.EqAt.int_none i t
    · simp only [RD] at h2; subst h2; cases r2; exact SeqAt.EqAt.int_bool i t _
    · simp only [RD] at h2; subst h2; obtain ⟨t', rfl⟩ := r2; exact SeqAt.EqAt.int_int i t _ t'
    · simp only [RD] at h2; obtain ⟨p, vs, rfl, hp, _⟩ := h2; cases r2
      obtain ⟨its, _, il⟩ := ii hok hp
      exact SeqAt.EqAt.int_tuple i t il (Nat.lt_of_le_of_lt (Nat.le_add_right _ _) hu)
  | .bl i, k, v, v', u, u', b, A, h1, h2, r1, r2, e, hu => by
    simp only [RD] at h1; subst h1
    cases r1
    cases k <;> simp only [peq] at e <;> try (cases e; done)
    all_goals cases e
    · simp only [RD] at h2; subst h2; cases r2; exact SeqAt.EqAt.bool_bool i _
    · simp only [RD] at h2; subst h2; obtain ⟨t', rfl⟩ := r2; exact SeqAt.EqAt.bool_int i _ t'
  | .str x, k, v, v', u, u', b, A, h1, h2, r1, r2, e, hu => by
    simp only [RD] at h1; subst h1
    obtain ⟨t, rfl⟩ := r1
    cases k <;> simp only [peq] at e <;> try (cases e; done)
    all_goals cases e
    rename_i y
    simp only [RD] at h2; subst h2; obtain ⟨t', rfl⟩ := r2
    have : decide (x = y) = (toS x == toS y) := by
      by_cases z : x = y
      · subst z; simp
      · have : ¬ toS x = toS y := fun q => z (by have := congrArg (fun (s : Str) => s.cps.toList) q; simpa [toS] using this)
        simp [z, this]
    rw [this]
    exact SeqAt.EqAt.str_str _ t _ t'
  | .non, k, v, v', u, u', b, A, h1, h2, r1, r2, e, hu => by
    simp only [RD] at h1; subst h1
    cases r1
    cases k <;> simp only [peq] at e <;> try (cases e; done)
    all_goals cases e
    · simp only [RD] at h2; subst h2; cases r2; exact SeqAt.EqAt.same _
    · simp only [RD] at h2; subst h2; obtain ⟨t', rfl⟩ := r2; exact SeqAt.EqAt.none_int _ t'
    · simp only [RD] at h2; obtain ⟨p, vs, rfl, hp, _⟩ := h2; cases r2
      obtain ⟨its, _, il⟩ := ii hok hp
      exact SeqAt.EqAt.none_tuple il (Nat.lt_of_le_of_lt (Nat.le_add_right _ _) hu)
  | .tup xs, k, v, v', u, u', b, A, h1, h2, r1, r2, e, hu => by
    have h1' := h1
    simp only [RD] at h1
    obtain ⟨p, vs, rfl, hp, q1⟩ := h1
    cases r1
    obtain ⟨its, rv, il⟩ := ii hok hp
    have hu0 : A.units < cLine := Nat.lt_of_le_of_lt (Nat.le_add_right _ _) hu
    cases k <;> simp only [peq] at e <;> try (cases e; done)
    · cases e; simp only [RD] at h2; subst h2; cases r2; exact SeqAt.EqAt.tuple_none il hu0
    · cases e; simp only [RD] at h2; subst h2; obtain ⟨t', rfl⟩ := r2; exact SeqAt.EqAt.tuple_int _ t' il hu0
    · rename_i ys
      have h2' := h2
      simp only [RD] at h2
      obtain ⟨p', vs', rfl, hp', q2⟩ := h2
      cases r2
      by_cases hpp : p = p'
      · subst hpp
        have : b = true := vT h1' h2' (by simp only [peq]; exact e)
        subst this
        exact SeqAt.EqAt.same _
      · obtain ⟨its', rv', il'⟩ := ii hok hp'
        cases c : gF xs ys with
        | none => rw [c] at e; cases e
        | some b' =>
          rw [c] at e
          simp only [Option.map_some, Option.some.injEq] at e
          obtain ⟨f, hf, ha⟩ := nj hok (A := A.in1) q1 q2 rv rv' c (by simp only [dep] at hu; show A.units + 1 + jT xs < cLine; omega)
          have := SeqAt.RcAt.tuples (s := s) (A := A) (e := f) il il' hu0 (fun j h1 h2 => by simpa using hf j (by simpa using h1) (by simpa using h2))
          rw [← e, ← ha, q1.length, q2.length, rv.length, rv'.length]
          refine SeqAt.EqAt.of_refs hpp ?_
          rw [show (decide (its.length = its'.length)) = (its.length == its'.length) from rfl]
          simpa using this
  | .ref n, k, v, v', u, u', b, A, h1, h2, r1, r2, e, hu => by cases k <;> simp only [peq] at e <;> cases e
  | .lit l, k, v, v', u, u', b, A, h1, h2, r1, r2, e, hu => by cases k <;> simp only [peq] at e <;> cases e
  | .exn c l, k, v, v', u, u', b, A, h1, h2, r1, r2, e, hu => by simp only [peq] at e <;> cases e
theorem nj (hok : HOk P w H s.heap) : ∀ {xs ys : List D} {vs vs' : List V} {us us' : List Value} {b : Bool} {A : Around}, RDs K ρ H xs vs → RDs K ρ H ys vs' → aP vs us → aP vs' us' → gF xs ys = some b → A.units + jT xs < cLine →
    ∃ f : Nat → Bool, (∀ j (h1 : j < us.length) (h2 : j < us'.length), SeqAt.EqAt A s us[j] us'[j] (f j)) ∧ (List.range (min us.length us'.length)).all f = b
  | [], ys, vs, vs', us, us', b, A, h1, h2, r1, r2, e, hu => by
    simp only [RDs] at h1; subst h1; cases r1
    simp only [gF] at e; cases e
    exact ⟨fun _ => true, fun j h1 => by simp at h1, by simp⟩
  | x :: xs, [], vs, vs', us, us', b, A, h1, h2, r1, r2, e, hu => by
    simp only [RDs] at h2; subst h2; cases r2
    simp only [gF] at e; cases e
    exact ⟨fun _ => true, fun j h1 h2 => by simp at h2, by simp⟩
  | x :: xs, y :: ys, vs, vs', us, us', b, A, h1, h2, r1, r2, e, hu => by
    simp only [RDs] at h1 h2
    obtain ⟨v, r, rfl, a1, a2⟩ := h1
    obtain ⟨v', r', rfl, b1, b2⟩ := h2
    cases r1 with
    | cons p1 p2 =>
      cases r2 with
      | cons s1 s2 =>
        simp only [gF] at e
        cases c : peq x y with
        | none => rw [c] at e; cases e
        | some p =>
          cases c2 : gF xs ys with
          | none => rw [c, c2] at e; cases e
          | some q =>
            rw [c, c2] at e
            simp only [Option.some.injEq] at e
            simp only [jT] at hu
            have g1 := HJ hok (A := A) a1 b1 p1 s1 c (by omega)
            obtain ⟨f, hf, ha⟩ := nj hok (A := A) a2 b2 p2 s2 c2 (by omega)
            refine ⟨fun j => match j with | 0 => p | j + 1 => f j, fun j h1 h2 => ?_, ?_⟩
            · cases j with
              | zero => exact g1
              | succ j => exact hf j (by simpa using h1) (by simpa using h2)
            · rw [← e, ← ha, List.length_cons, List.length_cons, Nat.succ_min_succ, List.range_succ_eq_map, List.all_cons, List.all_map]
              rfl
end
theorem HK (hok : HOk P w H s.heap) {d k : D} {v v' : V} {u u' : Value} {b : Bool} {A : Around} (h1 : RD K ρ H d v) (h2 : RD K ρ H k v') (r1 : bK v u) (r2 : bK v' u') (e : peq d k = some b) (hu : A.units + dep d < cLine) :
    SeqAt.RcAt A s u u' b ∧ SeqAt.RcNeAt A s u u' (!b) := by
  have hu0 : A.units < cLine := Nat.lt_of_le_of_lt (Nat.le_add_right _ _) hu
  cases d <;> simp only [RD] at h1
  · subst h1; cases r1
    cases k <;> simp only [peq] at e <;> try (cases e; done)
    all_goals cases e
    · simp only [RD] at h2; subst h2; cases r2; exact ⟨SeqAt.RcAt.none_none, SeqAt.RcNeAt.none_none⟩
    · simp only [RD] at h2; subst h2; obtain ⟨t', rfl⟩ := r2; exact ⟨SeqAt.RcAt.none_int _ t', SeqAt.RcNeAt.none_int _ t'⟩
    · simp only [RD] at h2; obtain ⟨p, vs, rfl, hp, _⟩ := h2; cases r2
      obtain ⟨its, _, il⟩ := ii hok hp
      exact ⟨SeqAt.RcAt.none_tuple il hu0, SeqAt.RcNeAt.none_tuple il hu0⟩
  · subst h1; cases r1
    cases k <;> simp only [peq] at e <;> try (cases e; done)
    all_goals cases e
    · simp only [RD] at h2; subst h2; cases r2; exact ⟨SeqAt.RcAt.bool_bool _ _, SeqAt.RcNeAt.bool_bool _ _⟩
    · simp only [RD] at h2; subst h2; obtain ⟨t', rfl⟩ := r2; exact ⟨SeqAt.RcAt.bool_int _ _ t', SeqAt.RcNeAt.bool_int _ _ t'⟩
  · subst h1; obtain ⟨t, rfl⟩ := r1
    cases k <;> simp only [peq] at e <;> try (cases e; done)
    all_goals cases e
    · simp only [RD] at h2; subst h2; cases r2; exact ⟨SeqAt.RcAt.int_none _ t, SeqAt.RcNeAt.int_none _ t⟩
    · simp only [RD] at h2; subst h2; cases r2; exact ⟨SeqAt.RcAt.int_bool _ t _, SeqAt.RcNeAt.int_bool _ t _⟩
    · simp only [RD] at h2; subst h2; obtain ⟨t', rfl⟩ := r2; exact ⟨SeqAt.RcAt.int_int _ t _ t', SeqAt.RcNeAt.int_int _ t _ t'⟩
    · simp only [RD] at h2; obtain ⟨p, vs, rfl, hp, _⟩ := h2; cases r2
      obtain ⟨its, _, il⟩ := ii hok hp
      exact ⟨SeqAt.RcAt.int_tuple _ t il hu0, SeqAt.RcNeAt.int_tuple _ t il hu0⟩
  · subst h1; obtain ⟨t, rfl⟩ := r1
    cases k <;> simp only [peq] at e <;> try (cases e; done)
    all_goals cases e
    rename_i x y
    simp only [RD] at h2; subst h2; obtain ⟨t', rfl⟩ := r2
    have : decide (x = y) = (toS x == toS y) := by
      by_cases z : x = y
      · subst z; simp
      · have : ¬ toS x = toS y := fun q => z (by have := congrArg (fun (s : Str) => s.cps.toList) q; simpa [toS] using this)
        simp [z, this]
    rw [this]
    exact ⟨SeqAt.RcAt.str_str _ t _ t', SeqAt.RcNeAt.str_str _ t _ t'⟩
  · rename_i xs
    obtain ⟨p, vs, rfl, hp, q1⟩ := h1
    cases r1
    obtain ⟨its, rv, il⟩ := ii hok hp
    cases k <;> simp only [peq] at e <;> try (cases e; done)
    · cases e; simp only [RD] at h2; subst h2; cases r2; exact ⟨SeqAt.RcAt.tuple_none il hu0, SeqAt.RcNeAt.tuple_none il hu0⟩
    · cases e; simp only [RD] at h2; subst h2; obtain ⟨t', rfl⟩ := r2; exact ⟨SeqAt.RcAt.tuple_int _ t' il hu0, SeqAt.RcNeAt.tuple_int _ t' il hu0⟩
    · rename_i ys
      simp only [RD] at h2
      obtain ⟨p', vs', rfl, hp', q2⟩ := h2
      cases r2
      obtain ⟨its', rv', il'⟩ := ii hok hp'
      cases c : gF xs ys with
      | none => rw [c] at e; cases e
      | some b' =>
        rw [c] at e
        simp only [Option.map_some, Option.some.injEq] at e
        obtain ⟨f, hf, ha⟩ := nj hok (A := A.in1) q1 q2 rv rv' c (by simp only [dep] at hu; show A.units + 1 + jT xs < cLine; omega)
        have g1 := SeqAt.RcAt.tuples (s := s) (A := A) (e := f) il il' hu0 (fun j h1 h2 => by simpa using hf j (by simpa using h1) (by simpa using h2))
        have g2 := SeqAt.RcNeAt.tuples (s := s) (A := A) (e := f) il il' hu0 (fun j h1 h2 => by simpa using hf j (by simpa using h1) (by simpa using h2))
        rw [← e, ← ha, q1.length, q2.length, rv.length, rv'.length, show (decide (its.length = its'.length)) = (its.length == its'.length) from rfl]
        exact ⟨by simpa using g1, by simpa using g2⟩
  · cases k <;> simp only [peq] at e <;> cases e
  · cases k <;> simp only [peq] at e <;> cases e
  · simp only [peq] at e <;> cases e
end
section
variable {X : Cx}
theorem gu {K : PySem.W.Frag} {ρ : List Addr} {H : Hp} {hd : Hd} {d : D} {v : V} {l : List D} (r : RH K ρ H hd) (h : RD K ρ H d v) (e : bP hd d = some l) : ∃ p vs, v = .ref p ∧ SqL K H p vs ∧ RDs K ρ H l vs := by
  cases d <;> simp only [bP] at e <;> try (cases e; done)
  · rename_i n
    simp only [RD] at h
    obtain ⟨a, e1, e2⟩ := h
    cases c : hd[n]? with
    | none => rw [c] at e; cases e
    | some x =>
      rw [c] at e
      cases x with
      | dct l => cases e
      | lst l' =>
        cases e
        obtain ⟨vs, q1, q2⟩ := r.cel n _ a c e1
        exact ⟨a, vs, e2, SqL.of q1, q2⟩
  · cases e
    simp only [RD] at h
    obtain ⟨p, vs, e1, e2, e3⟩ := h
    exact ⟨p, vs, e1, e2.sq, e3⟩
theorem DN {pins : List (Addr × Obj)} {σ : St} {H : Hp} {s : Shared} {ρ : List Addr} {hd : Hd} {d k : D} {v v' : V} {u u' : Value} {b : Bool} (hu : X.A.units + 24 < cLine) (I : Inv X pins σ H s) (r : RH X.K ρ H hd) (h1 : RD X.K ρ H d v) (h2 : RD X.K ρ H k v')
    (r1 : bK v u) (r2 : bK v' u') (e : eqG hd d k = some b) : SeqAt.RcAt X.A s u u' b ∧ SeqAt.RcNeAt X.A s u u' (!b) := by
  have hu0 : X.A.units < cLine := by omega
  simp only [eqG] at e
  cases c1 : bP hd d with
  | none =>
    cases c2 : bP hd k with
    | some l => rw [c1, c2] at e; cases e
    | none =>
      rw [c1, c2] at e
      simp only at e
      split at e
      · rename_i hd20
        exact HK I.hok h1 h2 r1 r2 e (by omega)
      · cases e
  | some xs =>
    cases c2 : bP hd k with
    | none => rw [c1, c2] at e; cases e
    | some ys =>
      rw [c1, c2] at e
      simp only [eqL] at e
      obtain ⟨p, vs, rfl, s1, q1⟩ := gu r h1 c1
      obtain ⟨p', vs', rfl, s2, q2⟩ := gu r h2 c2
      cases r1; cases r2
      obtain ⟨its, rv, pl, _⟩ := I.list s1
      obtain ⟨its', rv', pl', _⟩ := I.list s2
      have il : s.heap.IsList p its.toArray := pl.isList
      have il' : s.heap.IsList p' its'.toArray := pl'.isList
      have l1 : xs.length = its.length := q1.length.trans rv.length
      have l2 : ys.length = its'.length := q2.length.trans rv'.length
      split at e
      · rename_i hd20
        split at e
        · rename_i hl
          obtain ⟨f, hf, ha⟩ := nj I.hok (A := X.A.in1) q1 q2 rv rv' e (by show X.A.units + 1 + jT xs < cLine; omega)
          have hs : its.toArray.size = its'.toArray.size := by simp; omega
          have g1 := SeqAt.RcAt.lists (s := s) (A := X.A) (e := f) il il' hs hu0 (fun j h1 h2 => by simpa using hf j (by simpa using h1) (by simpa using h2))
          have g2 := SeqAt.RcNeAt.lists (s := s) (A := X.A) (e := f) il il' hs hu0 (fun j h1 h2 => by simpa using hf j (by simpa using h1) (by simpa using h2))
          have hm : min its.length its'.length = its.length := by omega
          rw [hm] at ha
          rw [← ha]
          exact ⟨by simpa using g1, by simpa using g2⟩
        · rename_i hl
          cases e
          have hs : (its.toArray.size != its'.toArray.size) = true := by simp; omega
          exact ⟨SeqAt.RcAt.lists_lengths il il' hs hu0, SeqAt.RcNeAt.lists_lengths il il' hs hu0⟩
      · cases e
def FF (K : PySem.W.Frag) (f : Bool → Bool) : R2 := fun x y H Q => ∃ ρ hd d k b, RH K ρ H hd ∧ RD K ρ H d x ∧ RD K ρ H k y ∧ eqG hd d k = some b ∧ Q (.bl (f b)) H
theorem gJ (hu : X.A.units + 24 < cLine) : OpR X (compareOp .Eq) (FF X.K id) := by
  intro pins s σ H x y v u Q I rx ry h
  obtain ⟨ρ, hd, d, k, b, r, h1, h2, e, q⟩ := h
  exact (DN hu I r h1 h2 rx ry e).1 _ _ _ _ ⟨.bl b, H, I, rfl, q⟩
theorem eT (hu : X.A.units + 24 < cLine) : OpR X (compareOp .NotEq) (FF X.K not) := by
  intro pins s σ H x y v u Q I rx ry h
  obtain ⟨ρ, hd, d, k, b, r, h1, h2, e, q⟩ := h
  exact (DN hu I r h1 h2 rx ry e).2 _ _ _ _ ⟨.bl (!b), H, I, rfl, q⟩
theorem jC {K : PySem.W.Frag} : Og K oEq (FF K id) := by
  intro ρ H σd hd σ d k v w Q rs rv rw' p
  unfold oEq at p
  cases e : eqG hd d k with
  | none => rw [e] at p; exact p.elim
  | some b => rw [e] at p; exact ⟨ρ, hd, d, k, b, rs.hp, rv, rw', e, p.here rs (by simp only [rD, RD]; rfl)⟩
theorem iO {K : PySem.W.Frag} : Og K oNe (FF K not) := by
  intro ρ H σd hd σ d k v w Q rs rv rw' p
  unfold oNe at p
  cases e : eqG hd d k with
  | none => rw [e] at p; exact p.elim
  | some b => rw [e] at p; exact ⟨ρ, hd, d, k, b, rs.hp, rv, rw', e, p.here rs (by simp only [rD, RD])⟩
end
end Fm
set_option Elab.async false
set_option linter.all false
set_option maxRecDepth 100000
namespace Fm
open PySem PySem.Spec L2
section
variable {K : PySem.W.Frag} {ρ ρ' : List Addr} {H H' : Hp} {hd hd' : Hd} {σd : Sd} {σ : St}
theorem bp.outE {r : Res D} {k : D → Hd → Out} {En : nB} (p : bp K ρ H (outE r σd k) En) :
    br K (rD K) ρ H σd σ r (fun v H' => ∃ ρ' d hd', Ext ρ H ρ' H' ∧ RS K ρ' H' σd hd' σ ∧ RD K ρ' H' d v ∧ bp K ρ' H' (k d hd') En) := by
  cases r with
  | ok d h' => exact fun b H' ρ' ex rs q => ⟨ρ', d, h', ex, rs, q, bp.ext ex p⟩
  | exc x h' => exact p
  | bad => exact p
theorem RSt.set (r : RSt K ρ H σd σ) {d : D} {v : V} (i : Nat) (h : RD K ρ H d v) : RSt K ρ H (σd.set i (some d)) (σ.set i (some v)) := by
  refine ⟨by simp [r.len], fun j x e => ?_⟩
  by_cases hj : i = j
  · subst hj
    by_cases hl : i < σd.length
    · simp only [slot, List.getElem?_set_self hl] at e
      cases e
      exact ⟨v, by rw [List.getElem?_set_self (by rw [← r.len]; exact hl)], h⟩
    · simp only [slot] at e
      rw [List.getElem?_eq_none (by simp; omega)] at e
      cases e
  · simp only [slot, List.getElem?_set_ne hj] at e
    rw [List.getElem?_set_ne hj]
    exact r.at' j x (by simpa only [slot] using e)
def Jr (K : PySem.W.Frag) (g : GF) : TG := fun v σ H Q => ∃ ρ σd hd d σd', RS K ρ H σd hd σ ∧ RD K ρ H d v ∧ g d σd = some σd' ∧ ∀ σ', RS K ρ H σd' hd σ' → Q σ' H
def HL (σ : Sd) (l : List Nat) (xs : List D) : Sd := (l.zip xs).foldl (fun σ p => σ.set p.1 (some p.2)) σ
def HM (K : PySem.W.Frag) (l : List Nat) : TGs := fun vs σ H Q => ∃ ρ σd hd ds, RS K ρ H σd hd σ ∧ RDs K ρ H ds vs ∧ ds.length = l.length ∧ ∀ σ', RS K ρ H (HL σd l ds) hd σ' → Q σ' H
end
def MG (X : Cx) (tg : Expr) (g : GF) : Prop := PG X tg (Jr X.K g)
def MGs (X : Cx) (ts : List Expr) (l : List Nat) : Prop := PGs X ts (HM X.K l)
section
variable {X : Cx} {pos : Pos}
theorem PG.imp {tg : Expr} {t u : TG} (h : PG X tg t) (i : ∀ v σ H Q, u v σ H Q → t v σ H Q) : PG X tg u := fun pins s σ H v w Q I r q => h pins s σ H v w Q I r (i v σ H Q q)
theorem PGs.imp {tg : List Expr} {t u : TGs} (h : PGs X tg t) (i : ∀ v σ H Q, u v σ H Q → t v σ H Q) : PGs X tg u := fun pins s σ H v w Q I r q => h pins s σ H v w Q I r (i v σ H Q q)
theorem aI {i : Nat} {x : Str} (hN : X.N.Nodup) (hi : X.N[i]? = some x) (hx : Loc X.env.scope x) (hf : X.fn x = true ∨ X.env.scope.names.lookup x = some .local := by first | exact .inl rfl | exact .inr rfl | assumption) : MG X (.Name x pos) (gN i) := by
  refine PG.imp (Ff hN hi hx hf) fun v σ H Q ⟨ρ, σd, hd, d, σd', rs, rv, e, q⟩ => ?_
  simp only [gN, Option.some.injEq] at e
  subst e
  exact q _ ⟨rs.hp, rs.st.set i rv⟩
theorem eI : MGs X [] [] := by
  refine PGs.imp Fg fun vs σ H Q ⟨ρ, σd, hd, ds, rs, rv, e, q⟩ => ?_
  have : ds = [] := by simpa using e
  subst this
  simp only [RDs] at rv
  exact ⟨rv, q σ rs⟩
theorem bn {e : Expr} {es : List Expr} {i : Nat} {l : List Nat} (h1 : MG X e (gN i)) (h2 : MGs X es l)
    (hs : (assignEach (e :: es) X.env).map (·.2) = assign e X.env :: (assignEach es X.env).map (·.2) := by rfl) : MGs X (e :: es) (i :: l) := by
  refine PGs.imp (Dr h1 h2 hs) fun vs σ H Q ⟨ρ, σd, hd, ds, rs, rv, e, q⟩ => ?_
  cases ds with
  | nil => simp at e
  | cons d ds =>
    simp only [RDs] at rv
    obtain ⟨v, r, rfl, h1, h2⟩ := rv
    refine ⟨v, r, rfl, ρ, σd, hd, d, _, rs, h1, rfl, fun σ' rs' => ?_⟩
    exact ⟨ρ, _, hd, ds, rs', h2, by simpa using e, fun σ2 rs2 => q σ2 rs2⟩
theorem gK {es : List Expr} {k : Nat} {l : List Nat} (hc : X.calm = true) (h : MGs X es l)
    (hn : (assignEach es X.env).length = l.length := by rfl) (hst : (assignEach es X.env).findIdx? (·.1) = none := by rfl) : MG X (.Tuple es k pos) (gT l) := by
  refine PG.imp (Hi hc h hn hst) fun v σ H Q ⟨ρ, σd, hd, d, σd', rs, rv, e, q⟩ => ?_
  cases d <;> simp only [gT] at e <;> try (cases e; done)
  rename_i xs
  split at e
  · rename_i hl
    cases e
    simp only [RD] at rv
    obtain ⟨p, vs, rfl, hp, r⟩ := rv
    exact ⟨p, vs, rfl, SqT.of hp, by rw [← r.length]; exact hl, ρ, σd, hd, xs, rs, r, hl, q⟩
  · cases e
theorem a7 : MSs X [] bS := PSs.imp tz fun En σ H ⟨ρ, σd, hd, rs, p⟩ => p σ H ρ Ext.refl rs
theorem ag {st : Stmt} {rest : List Stmt} {a b : SF} (h1 : MS X st a) (h2 : MSs X rest b) : MSs X (st :: rest) (aC a b) := by
  refine PSs.imp (vK h1 h2) fun En σ H ⟨ρ, σd, hd, rs, p⟩ => ⟨ρ, σd, hd, rs, ?_⟩
  unfold aC at p
  cases e : a σd hd with
  | nx σ1 h1 => rw [e] at p; exact fun σ' H' ρ' ex rs' => ⟨ρ', σ1, h1, rs', bp.ext ex p⟩
  | rt d h1 => rw [e] at p; exact p
  | bk σ1 h1 => rw [e] at p; exact p
  | ct σ1 h1 => rw [e] at p; exact p
  | exc x σ1 h1 => rw [e] at p; exact p
  | bad => rw [e] at p; exact p
theorem aq {st : Stmt} {a : SF} (h : MS X st a) : MSs X [st] a := tD h
theorem aL {e : Expr} {f : EF} (h : ME X e f) : MS X (.Return (some e) pos) (bi f) := by
  refine PS.imp (Hg h) fun En σ H ⟨ρ, σd, hd, rs, p⟩ => ⟨ρ, σd, hd, rs, (bp.outE p).imp fun v H1 ⟨ρ1, d, hd1, e1, rs1, rv, p1⟩ => ?_⟩
  exact p1 v H1 ρ1 Ext.refl rs1.hp rv
theorem eJ {e : Expr} {f : EF} (h : ME X e f) (hs : swapsWith e none pos.line X.env = pure false := by rfl) : MS X (.Expr e pos) (gX f) := by
  refine PS.imp (AY h hs) fun En σ H ⟨ρ, σd, hd, rs, p⟩ => ⟨ρ, σd, hd, rs, (bp.outE p).imp fun v H1 ⟨ρ1, d, hd1, e1, rs1, rv, p1⟩ => ?_⟩
  exact p1 σ H1 ρ1 Ext.refl rs1
theorem b5 {c : Expr} {a b : List Stmt} {t : TF} {fa fb : SF} (hc : MT X c t) (ha : MSs X a fa) (hb : MSs X b fb) : MS X (.If c a b pos) (sIf t fa fb) := by
  refine PS.imp (GK hc ha hb) fun En σ H ⟨ρ, σd, hd, rs, p⟩ => ⟨ρ, σd, hd, rs, ?_⟩
  unfold sIf at p
  cases e : t σd hd with
  | ok c h1 =>
    rw [e] at p
    intro b H' ρ' ex rs' q
    cases q
    cases c with
    | true => simp only [if_true] at p ⊢; exact ⟨ρ', σd, h1, rs', bp.ext ex p⟩
    | false => simp only [Bool.false_eq_true, if_false] at p ⊢; exact ⟨ρ', σd, h1, rs', bp.ext ex p⟩
  | exc x h1 => rw [e] at p; exact p
  | bad => rw [e] at p; exact p
theorem aE {i : Nat} {x : Str} {e : Expr} {f : EF} {pos' : Pos} (hN : X.N.Nodup) (hi : X.N[i]? = some x) (hx : Loc X.env.scope x) (he : ME X e f) (hs : swapsWith e (some (.Name x pos')) pos.line X.env = pure false := by rfl) (hf : X.fn x = true ∨ X.env.scope.names.lookup x = some .local := by first | exact .inl rfl | exact .inr rfl | assumption) :
    MS X (.Assign [.Name x pos'] e pos) (aH (gN i) f) := by
  refine PS.imp (x9 hN hi hx he hs hf) fun En σ H ⟨ρ, σd, hd, rs, p⟩ => ⟨ρ, σd, hd, rs, (bp.outE p).imp fun v H1 ⟨ρ1, d, hd1, e1, rs1, rv, p1⟩ => ?_⟩
  exact p1 _ H1 ρ1 Ext.refl ⟨rs1.hp, rs1.st.set i rv⟩
theorem DO {tg e : Expr} {f : EF} {g : GF} (he : ME X e f) (hg : MG X tg g) (hs : swapsWithSole [tg] e pos.line X.env = pure false := by rfl) (hw : swappedStores [tg] e X.env = pure none := by rfl)
    (h1 : (assignEach [tg] X.env).map (·.2) = [assign tg X.env] := by rfl) : MS X (.Assign [tg] e pos) (aH g f) := by
  refine PS.imp (Ds he hg hs hw h1) fun En σ H ⟨ρ, σd, hd, rs, p⟩ => ⟨ρ, σd, hd, rs, (bp.outE p).imp fun v H1 ⟨ρ1, d, hd1, e1, rs1, rv, p1⟩ => ?_⟩
  cases c : g d σd with
  | none => rw [c] at p1; exact p1.elim
  | some σ1 => rw [c] at p1; exact ⟨ρ1, σd, hd1, d, σ1, rs1, rv, c, fun σ' rs' => p1 σ' H1 ρ1 Ext.refl rs'⟩
theorem HN : Fm.ixN = L2.ixN := rfl
theorem tS {o i e : Expr} {fo fi fe : EF} {p2 : Pos} (he : ME X e fe) (ho : ME X o fo) (hi : ME X i fi) (hs : swapsWithSole [.Subscript o i p2] e pos.line X.env = pure false := by rfl) (hw : swappedStores [.Subscript o i p2] e X.env = pure none := by rfl)
    (h1 : (assignEach [.Subscript o i p2] X.env).map (·.2) = [assign (.Subscript o i p2) X.env] := by rfl) (ha : ∀ v, assign (.Subscript o i p2) X.env v = (do
      let ov ← holding [v] (eval o X.env)
      let iv ← holding [v, ov] (eval i X.env)
      standAt p2
      holding [v, ov, iv] (setItem ov iv v)
      release [v, ov, iv] []) := by intro _; rfl) : MS X (.Assign [.Subscript o i p2] e pos) (pM fo fi fe) := by
  refine PS.imp (Ds he (Hj ho hi DD ha) hs hw h1) fun En σ H ⟨ρ, σd, hd, rs, p⟩ => ⟨ρ, σd, hd, rs, (bp.outE p).imp fun v H1 ⟨ρ1, d, hd1, e1, rs1, rv, p1⟩ => ?_⟩
  refine ⟨ρ1, σd, hd1, rs1, (bp.outE p1).imp fun vo H2 ⟨ρ2, dO, hd2, e2, rs2, ro, p2⟩ => ?_⟩
  refine ⟨ρ2, σd, hd2, rs2, (bp.outE p2).imp fun vi H3 ⟨ρ3, di, hd3, e3, rs3, ri, p3⟩ => ?_⟩
  have rv3 := (rv.mono (rs1.hp.kp e2)).mono (rs2.hp.kp e3)
  have ro3 := ro.mono (rs2.hp.kp e3)
  cases dO with
  | ref n =>
    cases di with
    | int j =>
      simp only at p3
      cases c : hd3[n]? with
      | none => rw [c] at p3; exact p3.elim
      | some cell =>
        rw [c] at p3
        cases cell with
        | dct l => exact p3.elim
        | lst l =>
          simp only at p3
          cases c2 : ixN l.length j with
          | none => rw [c2] at p3; exact p3.elim
          | some k =>
            rw [c2] at p3
            simp only [RD] at ro3 ri
            obtain ⟨a, ha, rfl⟩ := ro3
            obtain ⟨vs, hv, rvs⟩ := rs3.hp.cel n _ a c ha
            refine ⟨a, vs, j, k, rfl, ri, hv, by rw [← rvs.length, ← HN]; exact c2, ?_⟩
            have hn : n < hd3.length := (List.getElem?_eq_some_iff.mp c).1
            have rh := rs3.hp.write ha hn (RDs.set rv3 k rvs)
            have ex : Ext ρ3 H3 ρ3 (upd H3 a (.lst (vs.set k v))) := Ext.write (List.mem_of_getElem? ha)
            exact p3 σ _ ρ3 ex (rs3.ext ex rh)
    | _ => exact p3.elim
  | _ => exact p3.elim
theorem HP {i : Nat} {x : Str} {e : Expr} {f : EF} {op : Operator} {r : R2} {g : O2} {pos' : Pos} (hN : X.N.Nodup) (hi : X.N[i]? = some x) (hx : Loc X.env.scope x) (he : ME X e f) (ho : OpR X (inplaceOp op) r) (hg : Og X.K g r) (hf : X.fn x = true ∨ X.env.scope.names.lookup x = some .local := by first | exact .inl rfl | exact .inr rfl | assumption) :
    MS X (.AugAssign (.Name x pos') op e pos) (FC i g f) := by
  refine PS.imp (Hl hN hi hx he (ti := r) ho hf) fun En σ H ⟨ρ, σd, hd, rs, p⟩ => ?_
  unfold FC at p
  cases c : slot σd i with
  | none => rw [c] at p; exact p.elim
  | some d =>
    rw [c] at p
    obtain ⟨v, h1, h2⟩ := rs.st.at' i d c
    refine ⟨v, h1, ρ, σd, hd, rs, (bp.outE p).imp fun w H1 ⟨ρ1, k, hd1, e1, rs1, rw', p1⟩ => ?_⟩
    refine hg ρ1 H1 σd hd1 σ d k v w _ rs1 (h2.mono (rs.hp.kp e1)) rw' ((bp.outE p1).imp fun z H2 ⟨ρ2, m, hd2, e2, rs2, rz, p2⟩ => ?_)
    exact p2 _ H2 ρ2 Ext.refl ⟨rs2.hp, rs2.st.set i rz⟩
end
section
variable (K : PySem.W.Frag)
structure pN (ρ0 : List Addr) (H0 : Hp) (J : It) (l : List D) (g : Option Nat) : Prop where
  go : ∀ ρ H hd (i : Nat) d, Ext ρ0 H0 ρ H → RH K ρ H hd → gm g l hd → l[i]? = some d → J.go i H ∧ ∀ x H', J.yld i H x H' → jS H H' ∧ RD K ρ H' d x
  stop : ∀ ρ H hd, Ext ρ0 H0 ρ H → RH K ρ H hd → gm g l hd → J.stop l.length H
  sz : l.length ≤ sizeLine
def Js (ρ : List Addr) (H : Hp) (σd : Sd) (σ : St) (r : Res (List D × Option Nat)) (R : It → Hp → Prop) : Prop := match r with
  | .ok p hd' => ∀ J H' ρ', Ext ρ H ρ' H' → RS K ρ' H' σd hd' σ → pN K ρ' H' J p.1 p.2 → R J H'
  | _ => False
def Jt (f : IF) : TI := fun σ H R => ∃ ρ σd hd, RS K ρ H σd hd σ ∧ Js K ρ H σd σ (f σd hd) R
end
def MI (X : Cx) (tg e : Expr) (f : IF) : Prop := PI X tg e (Jt X.K f)
section
variable {X : Cx} {pos : Pos} {tg : Expr}
theorem PI.imp {e : Expr} {t u : TI} (h : PI X tg e t) (i : ∀ σ H R, u σ H R → t σ H R) : PI X tg e u := fun pins s σ H R I q => h pins s σ H R I (i σ H R q)
theorem ek {iter : Expr} {body : List Stmt} {f : IF} {g : GF} {b : SF} (hp : PassesOwn (model X.prog X.w) X.A X.env X.xe) (hc : X.calm = true) (hi : MI X tg iter f) (hg : MG X tg g) (hb : MSs X body b)
    (hs : ∀ x, foldedSetIterable iter X.env x = pure x := by intro _; rfl) : MS X (.For tg iter body [] pos) (gn f g b) := by
  refine PS.imp (yd hp hc hi hg hb hs) fun En σ H ⟨ρ, σd, hd, rs, p⟩ => ⟨ρ, σd, hd, rs, ?_⟩
  unfold gn at p
  cases e : f σd hd with
  | exc x h' => rw [e] at p; exact p
  | bad => rw [e] at p; exact p
  | ok q hd1 =>
    rw [e] at p
    obtain ⟨l, gd⟩ := q
    intro J H1 ρ1 ex1 rs1 wk
    simp only at p wk
    refine ⟨fun i m σ' H' => ∃ ρ' σd' hd', Ext ρ1 H1 ρ' H' ∧ RS X.K ρ' H' σd' hd' σ' ∧ i ≤ l.length ∧ m = l.length - i ∧ bp X.K ρ' H' (cV gd l g b (l.drop i) σd' hd') En,
      ⟨l.length, ρ1, σd, hd1, Ext.refl, rs1, Nat.zero_le _, by simp, by simpa using bp.ext ex1 p⟩, ?_⟩
    rintro i m σ' H' ⟨ρ', σd', hd', ex, rs', hil, rfl, pp⟩
    by_cases hlt : i < l.length
    · have hdi : l[i]? = some l[i] := by simp [hlt]
      rw [List.drop_eq_getElem_cons hlt] at pp
      unfold cV at pp
      by_cases hh : gm gd l hd'
      · rw [if_pos hh] at pp
        obtain ⟨go, yl⟩ := wk.go ρ' H' hd' i _ ex rs'.hp hh hdi
        refine .inr ⟨go, fun σ2 H2 => ∃ ρ2 σd2 hd2, Ext ρ1 H1 ρ2 H2 ∧ RS X.K ρ2 H2 σd2 hd2 σ2 ∧ bp X.K ρ2 H2 (cV gd l g b (l.drop (i + 1)) σd2 hd2) En,
          fun σ2 H2 ⟨ρ2, σd2, hd2, a1, a2, a3⟩ => ⟨l.length - (i + 1), by omega, ρ2, σd2, hd2, a1, a2, hlt, rfl, a3⟩, fun x H2 y => ?_⟩
        obtain ⟨sm, rx⟩ := yl x H2 y
        cases c : g l[i] σd' with
        | none => rw [c] at pp; exact pp.elim
        | some σd2 =>
          rw [c] at pp
          simp only at pp
          refine ⟨ρ', σd', hd', l[i], σd2, rs'.same sm, rx, c, fun σ2 rs2 => ⟨ρ', σd2, hd', rs2, ?_⟩⟩
          have e12 : Ext ρ' H' ρ' H2 := Ext.same sm
          cases c2 : b σd2 hd' with
          | nx σ3 h3 => rw [c2] at pp; exact fun σ4 H4 ρ4 ex4 rs4 => ⟨ρ4, σ3, h3, ex.trans (e12.trans ex4), rs4, bp.ext (e12.trans ex4) pp⟩
          | ct σ3 h3 => rw [c2] at pp; exact fun σ4 H4 ρ4 ex4 rs4 => ⟨ρ4, σ3, h3, ex.trans (e12.trans ex4), rs4, bp.ext (e12.trans ex4) pp⟩
          | bk σ3 h3 => rw [c2] at pp; exact fun σ4 H4 ρ4 ex4 rs4 => pp σ4 H4 ρ4 (e12.trans ex4) rs4
          | rt d h3 => rw [c2] at pp; exact fun v H4 ρ4 ex4 rs4 rv => pp v H4 ρ4 (e12.trans ex4) rs4 rv
          | exc x σ3 h3 => rw [c2] at pp; exact pp
          | bad => rw [c2] at pp; exact pp
      · rw [if_neg hh] at pp; exact pp.elim
    · have e0 : i = l.length := by omega
      subst e0
      rw [List.drop_length] at pp
      unfold cV at pp
      by_cases hh : gm gd l hd'
      · rw [if_pos hh] at pp
        exact .inl ⟨wk.stop ρ' H' hd' ex rs'.hp hh, pp σ' H' ρ' Ext.refl rs'⟩
      · rw [if_neg hh] at pp; exact pp.elim
theorem vU {c : Expr} {body : List Stmt} {t : TF} {b : SF} (hp : PassesOwn (model X.prog X.w) X.A X.env X.xe) (hc : MT X c t) (hb : MSs X body b) : MS X (.While c body [] pos) (jV t b) := by
  refine PS.imp (Dt hp hc hb) fun En σ H ⟨ρ, σd, hd, rs, p⟩ => ?_
  unfold jV at p
  refine ⟨fun m σ' H' => ∃ ρ' σd' hd', RS X.K ρ' H' σd' hd' σ' ∧ bp X.K ρ' H' (cF t b m σd' hd') En, ⟨FD t b σd hd, ρ, σd, hd, rs, p⟩, ?_⟩
  rintro m σ' H' ⟨ρ', σd', hd', rs', pp⟩
  cases m with
  | zero => exact pp.elim
  | succ m =>
    unfold cF at pp
    refine ⟨ρ', σd', hd', rs', ?_⟩
    cases e : t σd' hd' with
    | exc x h1 => rw [e] at pp; exact pp
    | bad => rw [e] at pp; exact pp
    | ok c h1 =>
      rw [e] at pp
      intro b' H2 ρ2 ex2 rs2 q
      cases q
      cases c with
      | false => simp only [Bool.false_eq_true, if_false] at pp ⊢; exact pp σ' H2 ρ2 ex2 rs2
      | true =>
        simp only [if_true] at pp ⊢
        refine ⟨fun σ3 H3 => ∃ ρ3 σd3 hd3, RS X.K ρ3 H3 σd3 hd3 σ3 ∧ bp X.K ρ3 H3 (cF t b m σd3 hd3) En, fun σ3 H3 q => ⟨m, Nat.lt_succ_self _, q⟩, ρ2, σd', h1, rs2, ?_⟩
        cases c2 : b σd' h1 with
        | nx σ3 h3 => rw [c2] at pp; exact fun σ4 H4 ρ4 ex4 rs4 => ⟨ρ4, σ3, h3, rs4, bp.ext (ex2.trans ex4) pp⟩
        | ct σ3 h3 => rw [c2] at pp; exact fun σ4 H4 ρ4 ex4 rs4 => ⟨ρ4, σ3, h3, rs4, bp.ext (ex2.trans ex4) pp⟩
        | bk σ3 h3 => rw [c2] at pp; exact fun σ4 H4 ρ4 ex4 rs4 => pp σ4 H4 ρ4 (ex2.trans ex4) rs4
        | rt d h3 => rw [c2] at pp; exact fun v H4 ρ4 ex4 rs4 rv => pp v H4 ρ4 (ex2.trans ex4) rs4 rv
        | exc x σ3 h3 => rw [c2] at pp; exact pp
        | bad => rw [c2] at pp; exact pp
theorem DP {K : PySem.W.Frag} {ρ : List Addr} {H : Hp} {hd : Hd} {q : Addr} {l : List D} {vs : List V} (r : RH K ρ H hd) (hq : H q = some (.tup vs)) (rv : RDs K ρ H l vs) (hz : vs.length ≤ sizeLine) : pN K ρ H (Itt K q) l none where
  go := fun ρ' H' hd' i d ex rh _ hi => by
    have k := r.kp ex
    obtain ⟨v, hv, rd⟩ := (rv.mono k).get hi
    have sq : SqT K H' q vs := SqT.of (k.tup q vs hq)
    refine ⟨⟨vs, v, sq, hv⟩, fun x H2 y => ?_⟩
    obtain ⟨rfl, y⟩ := y
    have := y vs sq
    rw [hv] at this
    cases this
    exact ⟨jS.refl _, rd⟩
  stop := fun ρ' H' hd' ex rh _ => ⟨vs, SqT.of ((r.kp ex).tup q vs hq), by rw [rv.length]; exact Nat.le_refl _⟩
  sz := by rw [rv.length]; exact hz
theorem DQ {K : PySem.W.Frag} {ρ : List Addr} {H : Hp} {hd : Hd} {q : Addr} {l : List D} {vs : List V} (r : RH K ρ H hd) (hq : mz K H q vs) (rv : RDs K ρ H l vs) (hz : vs.length ≤ sizeLine) : pN K ρ H (Itl K q) l none where
  go := fun ρ' H' hd' i d ex rh _ hi => by
    have k := r.kp ex
    obtain ⟨v, hv, rd⟩ := (rv.mono k).get hi
    have sq : SqL K H' q vs := (hq.mono k).sq
    refine ⟨⟨vs, v, sq, hv⟩, fun x H2 y => ?_⟩
    obtain ⟨rfl, y⟩ := y
    have := y vs sq
    rw [hv] at this
    cases this
    exact ⟨jS.refl _, rd⟩
  stop := fun ρ' H' hd' ex rh _ => ⟨vs, (hq.mono (r.kp ex)).sq, by rw [rv.length]; exact Nat.le_refl _⟩
  sz := by rw [rv.length]; exact hz
theorem DR {K : PySem.W.Frag} {ρ : List Addr} {H : Hp} {n : Nat} {q : Addr} {l : List D} (hq : ρ[n]? = some q) (hz : l.length ≤ sizeLine) : pN K ρ H (Itl K q) l (some n) where
  sz := hz
  go := fun ρ' H' hd' i d ex rh hl hi => by
    obtain ⟨vs, e, rv⟩ := rh.cel n _ q hl (ex.get hq)
    obtain ⟨v, hv, rd⟩ := rv.get hi
    have sq : SqL K H' q vs := SqL.of e
    refine ⟨⟨vs, v, sq, hv⟩, fun x H2 y => ?_⟩
    obtain ⟨rfl, y⟩ := y
    have := y vs sq
    rw [hv] at this
    cases this
    exact ⟨jS.refl _, rd⟩
  stop := fun ρ' H' hd' ex rh hl => by
    obtain ⟨vs, e, rv⟩ := rh.cel n _ q hl (ex.get hq)
    exact ⟨vs, SqL.of e, by rw [rv.length]; exact Nat.le_refl _⟩
theorem HQ {l : Expr} {tl : TE} (hl : PE X l tl) : PI X tg l (fun σ H R => tl σ H fun x H1 => (∃ a xs, x = .ref a ∧ SqL X.K H1 a xs ∧ (xs.length ≤ sizeLine → R (Itl X.K a) H1)) ∨ ∃ a xs, x = .ref a ∧ SqT X.K H1 a xs ∧ (xs.length ≤ sizeLine → R (Itt X.K a) H1)) := by
  intro pins s σ H R I h
  refine thn (hl pins s σ H _ I h) fun v s1 ⟨x, H1, I1, r1, q1⟩ => ?_
  rcases q1 with ⟨a, xs, e, hq, q⟩ | ⟨a, xs, e, hq, q⟩
  · subst e
    cases r1
    obtain ⟨its, rv, p, hz⟩ := I1.list hq
    refine wpAny_pyIter_list p.isList ?_
    refine ⟨s1.heap.objs.size, [s1.heap.objs.size], _, _, H1, rfl, I1.kept (t' := s1.toks) fun b o e => Heap.get?_push_of_some _ e, BR a _, ⟨_, Heap.get?_push_size _ rfl, rfl, rfl⟩, fun b hb => ?_, q hz⟩
    have e : b = s1.heap.objs.size := by simpa using hb
    subst e
    exact I1.fpOk (Nat.le_refl _) (I1.hok.fresh (Nat.le_refl _))
  · subst e
    cases r1
    obtain ⟨its, rv, p, hz⟩ := I1.tuple hq
    refine wpAny_pyIter_tuple (show s1.heap.IsTuple a its.toArray from p) ?_
    refine ⟨s1.heap.objs.size, [s1.heap.objs.size], _, _, H1, rfl, I1.kept (t' := s1.toks) fun b o e => Heap.get?_push_of_some _ e, yb a _, ⟨_, Heap.get?_push_size _ rfl, rfl, rfl⟩, fun b hb => ?_, q hz⟩
    have e : b = s1.heap.objs.size := by simpa using hb
    subst e
    exact I1.fpOk (Nat.le_refl _) (I1.hok.fresh (Nat.le_refl _))
theorem ec {e : Expr} {f : EF} (h : ME X e f) : MI X tg e (db f) := by
  refine PI.imp (HQ h) fun σ H R ⟨ρ, σd, hd, rs, p⟩ => ⟨ρ, σd, hd, rs, ?_⟩
  unfold db at p
  cases e : f σd hd with
  | exc x h1 => rw [e] at p; exact p
  | bad => rw [e] at p; exact p
  | ok d hd1 =>
    rw [e] at p
    simp only [aQ] at p
    intro v H1 ρ1 ex1 rs1 rv
    cases d <;> try exact p.elim
    · rename_i l
      simp only [rD, RD] at rv
      obtain ⟨q, vs, rfl, hq, rvs⟩ := rv
      exact .inr ⟨q, vs, rfl, SqT.of hq, fun hz => p _ H1 ρ1 ex1 rs1 (DP rs1.hp hq rvs hz)⟩
    · rename_i n
      simp only [rD, RD] at rv
      obtain ⟨a, ha, rfl⟩ := rv
      cases c : hd1[n]? with
      | none => simp only [c] at p; exact p.elim
      | some cell =>
        cases cell with
        | dct l => simp only [c] at p; exact p.elim
        | lst l =>
          simp only [c] at p
          obtain ⟨vs, hv, rvs⟩ := rs1.hp.cel n _ a c ha
          exact .inl ⟨a, vs, rfl, SqL.of hv, fun hz => p _ H1 ρ1 ex1 rs1 (DR ha (by rw [rvs.length]; exact hz))⟩
    · rename_i l
      simp only [rD, RD] at rv
      obtain ⟨q, vs, rfl, hq, rvs⟩ := rv
      exact .inl ⟨q, vs, rfl, hq.sq, fun hz => p _ H1 ρ1 ex1 rs1 (DQ rs1.hp hq rvs hz)⟩
theorem yr {K : PySem.W.Frag} {ρ : List Addr} {H : Hp} (lo : Int) (n : Nat) (hz : n ≤ 2000000) : pN K ρ H (Itr lo n) ((List.range n).map fun k : Nat => .int (lo + k)) none where
  go := fun ρ' H' hd' i d ex rh _ hi => by
    have hin : i < n := by
      have := (List.getElem?_eq_some_iff.mp hi).1
      simpa using this
    refine ⟨hin, fun x H2 y => ?_⟩
    obtain ⟨rfl, rfl⟩ := y
    have e : d = .int (lo + i) := by simpa [hin] using hi.symm
    subst e
    exact ⟨jS.refl _, by simp only [RD]⟩
  stop := fun ρ' H' hd' ex rh _ => by
    show n ≤ _
    simp
  sz := by
    have : (2000000 : Nat) ≤ sizeLine := by rw [sizeLine_eq]; decide
    simp; omega
theorem ck {a : Expr} {f : EF} {p : Pos} (hg : Gl X "range") (hm : X.mg "range" = none) (ha : ME X a f) (hs : starEach [a] X.env = [(false, eval a X.env)] := by rfl) : MI X tg (.Call (.Name "range" p) [a] [] pos) (bZ f) := by
  refine PI.imp (BS hg hm (bG ha cD hs) hs) fun σ H R ⟨ρ, σd, hd, rs, pp⟩ => ⟨ρ, σd, hd, rs, ?_⟩
  unfold bZ at pp
  cases e : f σd hd with
  | exc x h1 => rw [e] at pp; exact pp
  | bad => rw [e] at pp; exact pp
  | ok d hd1 =>
    rw [e] at pp
    simp only [aQ] at pp
    intro v H1 ρ1 ex1 rs1 rv
    cases d <;> try exact pp.elim
    rename_i n
    simp only at pp
    simp only [rD, RD] at rv
    subst rv
    split at pp
    · rename_i hb
      refine ⟨n, rfl, by omega, by omega, pp _ H1 ρ1 ex1 rs1 ?_⟩
      have := yr (K := X.K) (ρ := ρ1) (H := H1) 0 n.toNat (by omega)
      simpa using this
    · exact pp.elim
end
end Fm
set_option linter.all false
namespace Fm
noncomputable section
open Classical
def eO (G : Hd → Prop) (tg : GF) (cs : List TF) (e : EF) : List D → Sd → Hd → Res (List D)
  | [], _, h => if G h then .ok [] h else .bad
  | x :: xs, σ, h => if G h then match tg x σ with
      | some σ => (iN cs σ h).bind fun b h => if b then (e σ h).bind fun d h => (eO G tg cs e xs σ h).bind fun ds h => .ok (d :: ds) h
        else eO G tg cs e xs σ h
      | none => .bad
    else .bad
end
theorem tT {g : Option Nat} {all : List D} {tg : GF} {cs : List TF} {e : EF} : ∀ (xs : List D) (σ : Sd) (h : Hd), cz g all tg cs e xs σ h = eO (gm g all) tg cs e xs σ h
  | [], _, h => by unfold cz eO; rfl
  | x :: xs, σ, h => by
    unfold cz eO
    by_cases hh : gm g all h
    · rw [if_pos hh, if_pos hh]
      cases tg x σ with
      | none => rfl
      | some σ' => simp only [tT xs]
    · rw [if_neg hh, if_neg hh]
end Fm
set_option Elab.async false
set_option linter.all false
set_option maxRecDepth 100000
namespace Fm
open PySem PySem.Spec L2
section
variable {prog : Program} {w : World} {A : Around} {R : Result → Shared → Prop} {s : Shared}
theorem tU {elt target iter : Expr} {ifs : List Expr} {scope : Scope} {pos : Pos} {it acc : Value} {env : Env} {E : Value → Shared → Prop} (hE : ∀ e s, ¬ E e s) (I : Nat → Shared → Prop)
    (turn : ∀ n s, I n s → wpAny (model prog w) A (pyNext it) (fun r s₁ => match r with
      | none => R (.ok .next) s₁
      | some v => wpAny (model prog w) A (letOwnedTupleGo target it v) (fun _ s₁ => wpAny (model prog w) A (assign target env v) (fun _ s₂ =>
          wpAny (model prog w) A (forIn ifs true fun c r => if r = true then do let ok ← isTrue c env (eval c env); pure (ForInStep.yield ok) else pure (ForInStep.yield r)) (fun ok s₃ =>
            if ok = true then wpAny (model prog w) A (eval elt env) (fun x s₄ =>
              wpAny (model prog w) A (call (.builtin "list.append") [acc, x]) (fun _ s₅ => ∃ m, m < n ∧ I m s₅) E s₄) E s₃
            else ∃ m, m < n ∧ I m s₃) E s₂) E s₁) E s₁) E s)
    (n : Nat) (h : I n s) :
    codeAny (model prog w) A (.compLoop (.ListComp elt [⟨target, iter, ifs, 0⟩] scope pos) 0 it acc env) R s := by
  refine codeAny_loop rfl I (fun n s hI => ?_) n h
  show wpAny _ A ((compTurn (.ListComp elt [⟨target, iter, ifs, 0⟩] scope pos) 0 it acc env).onRaise (fun x => do noteFrame x env; theTreesLotGoes x)) _ _ s
  refine wpAny_noted ?_
  rw [compTurn_list]
  have no : ∀ {α : Type} {t : Sem α} {Q Q' : α → Shared → Prop} {E' : Value → Shared → Prop} {s : Shared}, wpAny (model prog w) A t Q E s → (∀ a s, Q a s → Q' a s) → wpAny (model prog w) A t Q' E' s := fun h hq => wpAny_mono h hq fun e s z => (hE e s z).elim
  refine wpAny_bind (wpAny_standAt (wpAny_bind (no (turn n s hI) fun r s₁ h₁ => ?_)))
  cases r with
  | none => exact wpAny_pure h₁
  | some v =>
    refine wpAny_bind (no h₁ fun _ s₁ h₁ => ?_)
    refine wpAny_bind (no h₁ fun _ s₂ h₂ => wpAny_bind (no h₂ fun ok s₃ h₃ => ?_))
    cases ok with
    | false => exact wpAny_pure ⟨rfl, h₃⟩
    | true =>
      exact wpAny_bind (wpAny_bind (no h₃ fun x s₄ h₄ => wpAny_bind (no h₄ fun _ s₅ h₅ => wpAny_pure (wpAny_pure ⟨rfl, h₅⟩))))
end
theorem jW {env : Env} : ∀ (l : List (Str × NameKind)) (cs : List (Str × Addr)), (∀ y ∈ l, y.2 = .free → ∃ c, env.cells.lookup y.1 = some c) →
    ∃ cl, (forIn l cs fun (x : Str × NameKind) (r : List (Str × Addr)) => if (x.2 == .free) = true then do let a ← cellOf env x.1; pure (ForInStep.yield ((x.1, a) :: r)) else pure (ForInStep.yield r)) = (pure cl : Sem _) ∧
      (∀ x c, cl.lookup x = some c → cs.lookup x = some c ∨ env.cells.lookup x = some c) ∧ (∀ y ∈ l, y.2 = .free → ∃ c, cl.lookup y.1 = some c) ∧ ∀ x c, cs.lookup x = some c → ∃ c', cl.lookup x = some c'
  | [], cs, _ => ⟨cs, by simp, fun x c h => .inl h, fun y hy => by simp at hy, fun x c h => ⟨c, h⟩⟩
  | (n, k) :: l, cs, hf => by
    by_cases hk : k = .free
    · subst hk
      obtain ⟨c, hc⟩ := hf (n, .free) (by simp) rfl
      obtain ⟨cl, h1, h2, h3, h4⟩ := jW l ((n, c) :: cs) fun y hy => hf y (by simp [hy])
      refine ⟨cl, ?_, fun x d h => ?_, fun y hy hyf => ?_, fun x d h => ?_⟩
      · rw [List.forIn_cons]
        simp only [beq_self_eq_true, if_true, cellOf, hc]
        exact h1
      · rcases h2 x d h with q | q
        · rw [List.lookup_cons] at q
          cases e : x == n with
          | true =>
            rw [e] at q
            have : x = n := by simpa using e
            subst this
            cases q
            exact .inr hc
          | false => rw [e] at q; exact .inl q
        · exact .inr q
      · rcases List.mem_cons.mp hy with e | e
        · subst e
          exact h4 n c (by simp [List.lookup_cons])
        · exact h3 y e hyf
      · by_cases e : x = n
        · subst e
          exact h4 x c (by simp [List.lookup_cons])
        · exact h4 x d (by rw [List.lookup_cons, beq_eq_false_iff_ne.mpr e]; exact h)
    · obtain ⟨cl, h1, h2, h3, h4⟩ := jW l cs fun y hy => hf y (by simp [hy])
      refine ⟨cl, ?_, h2, fun y hy hyf => ?_, h4⟩
      · rw [List.forIn_cons]
        have : (k == NameKind.free) = false := by simpa using hk
        simp only [this, Bool.false_eq_true, if_false]
        exact h1
      · rcases List.mem_cons.mp hy with e | e
        · subst e; exact absurd hyf hk
        · exact h3 y e hyf
theorem jX {scope : Scope} {env : Env} (hf : ∀ y ∈ scope.names, y.2 = .free → ∃ c, env.cells.lookup y.1 = some c) :
    ∃ cl, closureFor scope env = pure cl ∧ (∀ x c, cl.lookup x = some c → env.cells.lookup x = some c) ∧ ∀ y ∈ scope.names, y.2 = .free → ∃ c, cl.lookup y.1 = some c := by
  obtain ⟨cl, h1, h2, h3, _⟩ := jW scope.names [] hf
  refine ⟨cl, ?_, fun x c h => (h2 x c h).elim (fun z => by simp at z) id, h3⟩
  unfold closureFor
  have e : (forIn scope.names ([] : List (Str × Addr)) fun (x : Str × NameKind) (r : List (Str × Addr)) => if (x.2 == .free) = true then do let a ← cellOf env x.1; pure (ForInStep.yield ((x.1, a) :: r)) else pure (ForInStep.yield r)) = (pure cl : Sem _) := h1
  exact (congrArg (fun t : Sem (List (Str × Addr)) => t >>= fun r => pure r) e).trans rfl
def cxC (X : Cx) (N : List Str) (scope : Scope) (cl : List (Str × Addr)) (C : Addr) (s : Shared) (H : Hp) (ex : List Addr) : Cx where
  prog := X.prog
  w := X.w
  K := X.K
  mg := X.mg
  base := X.base
  A := X.A
  N := N
  s₀ := s
  H₀ := H
  env := compEnvC scope cl C X.env
  outer := X.stack
  stack := X.stack
  ex := ex
  fn := fun _ => false
  calm := X.calm
  pn := []
  xe := fun _ _ => False
def MTs (X : Cx) (ifs : List Expr) (cs : List TF) : Prop :=
  ∀ (pins : List (Addr × Obj)) (s : Shared) (σ : St) (H : Hp) (Q : Bool → Hp → Prop), Inv X pins σ H s → jA X.K rB (iN cs) σ H Q →
    wpAny (model X.prog X.w) X.A (forIn ifs true fun c r => if r = true then do let ok ← isTrue c X.env (eval c X.env); pure (ForInStep.yield ok) else pure (ForInStep.yield r)) (TP X pins σ Q) X.xe s
theorem ed {X : Cx} : MTs X [] [] := fun pins s σ H Q I ⟨ρ, σd, hd, rs, p⟩ => wpAny_tests_nil ⟨H, I, p.here rs rfl⟩
theorem kv {X : Cx} {c : Expr} {t : TF} (h : MT X c t) : MTs X [c] [t] := fun pins s σ H Q I ⟨ρ, σd, hd, rs, p⟩ => wpAny_tests_one (h pins s σ H Q I ⟨ρ, σd, hd, rs, by
  have e : iN [t] σd hd = t σd hd := by
    simp only [iN]
    cases c : t σd hd with
    | ok b h' => cases b <;> simp
    | exc x h' => rfl
    | bad => rfl
  rw [e] at p
  exact p⟩)
theorem iW {env : Env} {x : Str} : ∀ {names : List (Str × NameKind)} {k : NameKind}, (names.map fun (n, k) => if (k == NameKind.free && env.scope.kind == .function && env.kindOf n == some .cell) then (n, NameKind.cell) else (n, k)).lookup x = some k →
    ∃ k0, names.lookup x = some k0 ∧ (k = k0 ∨ (k0 = .free ∧ k = .cell))
  | [], _, h => by simp at h
  | (n, k') :: r, k, h => by
    have ih := @iW env x r k
    have h' : List.lookup x ((if (k' == NameKind.free && env.scope.kind == .function && env.kindOf n == some .cell) = true then (n, NameKind.cell) else (n, k')) :: _) = some k := h
    cases hx : x == n with
    | true =>
      refine ⟨k', by simp [List.lookup_cons, hx], ?_⟩
      by_cases hc : (k' == NameKind.free && env.scope.kind == .function && env.kindOf n == some .cell) = true
      · rw [if_pos hc] at h'
        simp only [List.lookup_cons, hx, Option.some.injEq] at h'
        simp only [Bool.and_eq_true, beq_iff_eq] at hc
        exact .inr ⟨hc.1.1, h'.symm⟩
      · rw [if_neg hc] at h'
        simp only [List.lookup_cons, hx, Option.some.injEq] at h'
        exact .inl h'.symm
    | false =>
      have : List.lookup x ((n, k') :: r) = List.lookup x r := by simp [List.lookup_cons, hx]
      rw [this]
      refine ih ?_
      by_cases hc : (k' == NameKind.free && env.scope.kind == .function && env.kindOf n == some .cell) = true
      · rw [if_pos hc] at h'; simpa only [List.lookup_cons, hx] using h'
      · rw [if_neg hc] at h'; simpa only [List.lookup_cons, hx] using h'
theorem fU {x : Str} {k : NameKind} : ∀ {l : List (Str × NameKind)}, l.lookup x = some k → (x, k) ∈ l
  | [], h => by simp at h
  | (n, k') :: r, h => by
    rw [List.lookup_cons] at h
    cases e : x == n with
    | true =>
      rw [e] at h
      have : x = n := by simpa using e
      subst this
      cases h
      exact List.mem_cons_self
    | false => rw [e] at h; exact List.mem_cons_of_mem _ (fU h)
structure bR (X : Cx) (scope : Scope) (own capn : List Str) (caps : List Nat) : Prop where
  kind : scope.kind = .function
  cell : ∀ y ∈ scope.names, y.2 ≠ .cell
  names : ∀ y ∈ scope.names, y.2 = .local → scope.names.lookup y.1 = some .local
  free : ∀ y ∈ scope.names, y.2 = .free → X.env.kindOf y.1 = some .cell ∨ X.env.kindOf y.1 = some .free
  cap : ∀ (j : Nat) x, capn[j]? = some x → ∃ i, caps[j]? = some i ∧ X.N[i]? = some x ∧ scope.names.lookup x = some .free
  len : capn.length = caps.length
section
variable {X : Cx} {pins : List (Addr × Obj)} {σ : St} {H1 : Hp} {s2 : Shared} {scope : Scope} {own capn : List Str} {caps : List Nat} {cl : List (Str × Addr)} {C : Addr} {ex : List Addr}
def stC (own : List Str) (caps : List Nat) (σ : St) : St := List.replicate own.length none ++ caps.map fun i => (σ[i]?).join
theorem HR (I : Inv X pins σ H1 s2) (S : bR X scope own capn caps) (hC : s2.heap.objs.size ≤ C) (hcl1 : ∀ x c, cl.lookup x = some c → X.env.cells.lookup x = some c) (hcl2 : ∀ y ∈ scope.names, y.2 = .free → ∃ c, cl.lookup y.1 = some c)
    (hf : ∀ b ∈ ex, pJ X pins H1 b) (hlt : ∀ b ∈ ex, b < s2.heap.objs.size) : (cxC X (own ++ capn) scope cl C s2 H1 ex).Ok where
  mod := I.ok.mod
  kind := S.kind
  glob := I.ok.glob
  blt := I.ok.blt
  above := hC
  inj := fun x y c h1 h2 => I.ok.inj x y c (hcl1 x c h1) (hcl1 y c h2)
  has := fun x hx => by
    have key : ∀ k, (relabel scope X.env).names.lookup x = some k → k = .cell ∨ k = .free → ∃ c, cl.lookup x = some c := fun k h hk => by
      obtain ⟨k0, h0, q⟩ := iW h
      have hm := fU h0
      have : k0 = .free := by
        rcases q with q | q
        · subst q
          rcases hk with e | e
          · exact absurd e (S.cell _ hm)
          · exact e
        · exact q.1
      exact hcl2 _ hm this
    rcases hx with h | h
    · exact key _ h (.inl rfl)
    · exact key _ h (.inr rfl)
  cab := fun x c h => by cases h
  hd := I.ok.hd
  frames := I.ok.frames
  stk := .inl rfl
  exf := fun b hb => by
    obtain ⟨f0, f1, f2, f3, f4, f5⟩ := hf b hb
    exact ⟨fun z => absurd (Nat.lt_of_lt_of_le (hlt b hb) hC) (by rw [z]; exact Nat.lt_irrefl _), fun x c e => f4 x c (hcl1 x c e)⟩
  bs := I.bs
  bsz := Nat.le_trans I.ok.bsz I.sz
  noex := fun b o e hb => by
    obtain ⟨f0, f1, f2, f3, f4, f5⟩ := hf b hb
    rcases f3 with z | z
    · exact I.ok.noex b o e z
    · exact absurd (Nat.lt_of_lt_of_le (Heap.lt_size (I.ok.bs b o e).1) z) (Nat.lt_irrefl _)
  exfs := fun b hb hs => by
    obtain ⟨f0, f1, f2, f3, f4, f5⟩ := hf b hb
    rcases List.mem_cons.mp (I.stkSub b hs) with z | z
    · exact f1 z
    · exact f2 z
  funs := I.stack
  frf := I.stkFree
theorem kw {env : Env} {x : Str} : ∀ {names : List (Str × NameKind)}, names.lookup x = some .free →
    (names.map fun (n, k) => if (k == NameKind.free && env.scope.kind == .function && env.kindOf n == some .cell) then (n, NameKind.cell) else (n, k)).lookup x = some .cell ∨
    (names.map fun (n, k) => if (k == NameKind.free && env.scope.kind == .function && env.kindOf n == some .cell) then (n, NameKind.cell) else (n, k)).lookup x = some .free
  | [], h => by simp at h
  | (n, k') :: r, h => by
    have ih := @kw env x r
    show List.lookup x ((if (k' == NameKind.free && env.scope.kind == .function && env.kindOf n == some .cell) = true then (n, NameKind.cell) else (n, k')) :: _) = _ ∨ List.lookup x ((if (k' == NameKind.free && env.scope.kind == .function && env.kindOf n == some .cell) = true then (n, NameKind.cell) else (n, k')) :: _) = _
    cases hx : x == n with
    | true =>
      simp only [List.lookup_cons, hx, Option.some.injEq] at h
      subst h
      by_cases hc : (NameKind.free == NameKind.free && env.scope.kind == .function && env.kindOf n == some .cell) = true
      · rw [if_pos hc]; exact .inl (by simp only [List.lookup_cons, hx])
      · rw [if_neg hc]; exact .inr (by simp only [List.lookup_cons, hx])
    | false =>
      simp only [List.lookup_cons, hx] at h
      by_cases hc : (k' == NameKind.free && env.scope.kind == .function && env.kindOf n == some .cell) = true
      · rw [if_pos hc]; simp only [List.lookup_cons, hx]; exact ih h
      · rw [if_neg hc]; simp only [List.lookup_cons, hx]; exact ih h
theorem FG {i : Nat} {v : V} (h : (stC own caps σ)[i]? = some (some v)) : ∃ j k, i = own.length + j ∧ caps[j]? = some k ∧ σ[k]? = some (some v) := by
  unfold stC at h
  by_cases hi : i < own.length
  · rw [List.getElem?_append_left (by simpa using hi)] at h
    simp [hi] at h
  · rw [List.getElem?_append_right (by simpa using Nat.le_of_not_lt hi)] at h
    simp only [List.length_replicate, List.getElem?_map] at h
    cases c : caps[i - own.length]? with
    | none => rw [c] at h; cases h
    | some k =>
      rw [c] at h
      simp only [Option.map_some, Option.some.injEq] at h
      refine ⟨i - own.length, k, by omega, c, ?_⟩
      cases e : σ[k]? with
      | none => rw [e] at h; cases h
      | some o => rw [e] at h; simp only [Option.join_some] at h; rw [h]
theorem B0 (I : Inv X pins σ H1 s2) (S : bR X scope own capn caps) (hC : s2.heap.objs.size < C) (hcl1 : ∀ x c, cl.lookup x = some c → X.env.cells.lookup x = some c) (hcl2 : ∀ y ∈ scope.names, y.2 = .free → ∃ c, cl.lookup y.1 = some c)
    (hf : ∀ b ∈ ex, pJ X pins H1 b) (hlt : ∀ b ∈ ex, b < s2.heap.objs.size) {h1 : Heap} {m : Str → Option Value} {tk : Nat} (hn : h1.Ns C m) (hk : ∀ b o, s2.heap.get? b = some o → h1.get? b = some o)
    (hD : h1.get? s2.heap.objs.size = some { cls := .type "list", data := .seq #[] }) :
    Inv (cxC X (own ++ capn) scope cl C s2 H1 ex) [] (stC own caps σ) (upd H1 s2.heap.objs.size (.lst [])) { s2 with heap := h1, toks := tk } where
  ok := HR I S (Nat.le_of_lt hC) hcl1 hcl2 hf hlt
  os := rfl
  bare := I.bare
  base := Un.laid hk (Nat.le_refl _) (I.hok.fresh (Nat.le_refl _))
  loc := by
    refine ⟨m, hn, fun i x v e1 e2 e3 => ?_⟩
    obtain ⟨j, k, rfl, hj, hk'⟩ := FG e2
    have e1' : capn[j]? = some x := by
      have : (own ++ capn)[own.length + j]? = some x := e1
      rw [List.getElem?_append_right (by omega)] at this
      simpa using this
    obtain ⟨k2, q1, q2, q3⟩ := S.cap j x e1'
    rw [hj] at q1; cases q1
    have hm := fU q3
    have kd := S.free _ hm rfl
    obtain ⟨m0, hn0, hl⟩ := I.loc
    obtain ⟨u, r, lk⟩ := hl k x v q2 hk' (.inr kd)
    refine ⟨u, r, .inr ⟨kw q3, ?_⟩⟩
    rcases lk with ⟨z, _⟩ | ⟨_, c, hc, o, ho, hd⟩
    · rcases kd with e | e <;> (rw [z] at e; cases e)
    · obtain ⟨c', hc'⟩ := hcl2 _ hm rfl
      have := hcl1 _ _ hc'
      rw [hc] at this
      cases this
      exact ⟨c, hc', o, hk c o ho, hd⟩
  cell := fun x c e => by
    obtain ⟨v, o, ho, hd⟩ := I.cell x c (hcl1 x c e)
    exact ⟨v, o, hk c o ho, hd⟩
  free := by
    show upd H1 _ _ C = none
    rw [aD (Nat.ne_of_gt hC)]
    exact I.hok.fresh (Nat.le_of_lt hC)
  freeC := fun x c e => by
    obtain ⟨v, o, ho, hd⟩ := I.cell x c (hcl1 x c e)
    rw [aD (Nat.ne_of_lt (Heap.lt_size ho))]
    exact I.freeC x c (hcl1 x c e)
  pin := fun p hp => absurd (show p ∈ ([] : List (Addr × Obj)) from hp) (by simp)
  hok := I.hok.laid hk (Nat.le_refl _) ⟨Nat.zero_le _, [], 0, .nil, hD⟩
  len := by
    show (stC own caps σ).length = (own ++ capn).length
    simp [stC, S.len]
end
theorem RS.other {K : PySem.W.Frag} {ρ : List Addr} {H : Hp} {σd : Sd} {hd : Hd} {σ : St} {d : Addr} {ys zs : List V} (r : RS K ρ H σd hd σ) (h : H d = some (.lst ys)) (n : d ∉ ρ) : RS K ρ (upd H d (.lst zs)) σd hd σ ∧ Kp ρ H ρ (upd H d (.lst zs)) := by
  have k : Kp ρ H ρ (upd H d (.lst zs)) := ⟨fun _ _ h => h, fun a us e => by
    rw [aD (fun z => by rw [z, h] at e; cases e)]; exact e, fun a o u e => by
    rw [aD (fun z => by rw [z, h] at e; cases e)]; exact e, fun a φ e => by
    rw [aD (fun z => by rw [z, h] at e; cases e)]; exact e⟩
  refine ⟨⟨⟨r.hp.len, r.hp.nd, fun m c a h1 h2 => (r.hp.cel m c a h1 h2).mono k (aD fun z => n (by rw [← z]; exact List.mem_of_getElem? h2))⟩, r.st.mono k⟩, k⟩
theorem Ext.other {ρ ρ' : List Addr} {H H' : Hp} {d : Addr} {o : HO} (e : Ext ρ H ρ' H') (h : H d = none) : Ext ρ H ρ' (upd H' d o) :=
  ⟨e.pre, e.new, fun p u hp n => by rw [aD (aG hp h)]; exact e.frame p u hp n⟩
theorem vV {nl : Nat} {caps : List Nat} {σd : Sd} {i : Nat} {d : D} (h : slot (fR nl caps σd) i = some d) : ∃ j k, i = nl + j ∧ caps[j]? = some k ∧ slot σd k = some d := by
  unfold fR at h
  simp only [slot] at h
  by_cases hi : i < nl
  · rw [List.getElem?_append_left (by simpa using hi)] at h
    simp [hi] at h
  · rw [List.getElem?_append_right (by simpa using Nat.le_of_not_lt hi)] at h
    simp only [List.length_replicate, List.getElem?_map] at h
    cases c : caps[i - nl]? with
    | none => rw [c] at h; cases h
    | some k =>
      rw [c] at h
      simp only [Option.map_some] at h
      refine ⟨i - nl, k, by omega, c, ?_⟩
      simp only [slot]
      revert h
      cases e : σd[k]? with
      | none => simp
      | some o => cases o <;> simp
structure vW (K : PySem.W.Frag) (ρ0 : List Addr) (H0 : Hp) (J : It) (l : List D) (G : Hd → Prop) : Prop where
  go : ∀ ρ H hd (i : Nat) d, Ext ρ0 H0 ρ H → RH K ρ H hd → G hd → l[i]? = some d → J.go i H ∧ ∀ x H', J.yld i H x H' → jS H H' ∧ RD K ρ H' d x
  stop : ∀ ρ H hd, Ext ρ0 H0 ρ H → RH K ρ H hd → G hd → J.stop l.length H
  sz : l.length ≤ sizeLine
theorem pN.g {K : PySem.W.Frag} {ρ : List Addr} {H : Hp} {J : It} {l : List D} {g : Option Nat} (w : pN K ρ H J l g) : vW K ρ H J l (gm g l) := ⟨w.go, w.stop, w.sz⟩
structure CD where
  i : Nat
  ys : List V
  acc : List D
  rest : List D
  ρ : List Addr
  σd : Sd
  hd : Hd
  H : Hp
  σ : St
structure CI (X : Cx) (own capn : List Str) (scope : Scope) (cl : List (Str × Addr)) (s2 : Shared) (C : Addr) (H1 : Hp) (ρ1 : List Addr) (fp : List Addr) (tn : Nat → Heap → Prop) (G : Hd → Prop) (g : GF) (cs : List TF) (e : EF) (l : List D) (hdF : Hd) (ds : List D) (d : CD) (s' : Shared) : Prop where
  le : d.i ≤ l.length
  inv : Inv (cxC X (own ++ capn) scope cl C s2 H1 fp) [] d.σ d.H s'
  st : tn d.i s'.heap
  fr : ∀ b ∈ fp, d.H b = none
  at' : d.H s2.heap.objs.size = some (.lst d.ys)
  out : s2.heap.objs.size ∉ d.ρ
  yl : d.ys.length ≤ d.i
  ex : Ext ρ1 H1 d.ρ d.H
  rs : RS X.K d.ρ d.H d.σd d.hd d.σ
  ac : RDs X.K d.ρ d.H d.acc d.ys
  run : eO G g cs e (l.drop d.i) d.σd d.hd = .ok d.rest hdF
  eq : d.acc ++ d.rest = ds
section
variable {X : Cx} {pins : List (Addr × Obj)} {σ : St} {H1 : Hp} {s2 : Shared} {scope : Scope} {own capn : List Str} {caps : List Nat} {cl : List (Str × Addr)}
theorem yt {ρ1 : List Addr} {σd : Sd} {hd1 : Hd} (S : bR X scope own capn caps) (r : RS X.K ρ1 H1 σd hd1 σ) {d : Addr} (hd : H1 d = none) : RS X.K ρ1 (upd H1 d (.lst [])) (fR own.length caps σd) hd1 (stC own caps σ) := by
  have sm := bT (o := HO.lst []) hd
  refine ⟨r.hp.same sm, ⟨by simp [stC, fR], fun i x e => ?_⟩⟩
  obtain ⟨j, k, rfl, hj, hs⟩ := vV e
  obtain ⟨v, h1, h2⟩ := r.st.at' k x hs
  refine ⟨v, ?_, h2.mono (Kp.same sm)⟩
  unfold stC
  rw [List.getElem?_append_right (by simp)]
  simp [hj, h1]
theorem ly {elt tg iter : Expr} {ifs : List Expr} {pos : Pos} {it : Addr} {fp : List Addr} {tn : Nat → Heap → Prop} {J : It} {l : List D} {G : Hd → Prop} {g : GF} {cs : List TF} {e : EF} {ρ1 : List Addr} {σd : Sd} {hd1 hdF : Hd} {ds : List D} {E : Value → Shared → Prop} {RR : Value → Addr → Result → Shared → Prop}
    (hc : X.calm = true) (S : bR X scope own capn caps) (hin : ∀ cl C s H ex, MG (cxC X (own ++ capn) scope cl C s H ex) tg g ∧ MTs (cxC X (own ++ capn) scope cl C s H ex) ifs cs ∧ ME (cxC X (own ++ capn) scope cl C s H ex) elt e)
    (I1 : Inv X pins σ H1 s2) (T : ya X.prog X.w X.K tg J fp it tn) (st0 : tn 0 s2.heap) (hf : ∀ b ∈ fp, pJ X pins H1 b) (rs1 : RS X.K ρ1 H1 σd hd1 σ) (wk : vW X.K ρ1 H1 J l G)
    (hcl1 : ∀ x c, cl.lookup x = some c → X.env.cells.lookup x = some c) (hcl2 : ∀ y ∈ scope.names, y.2 = .free → ∃ c, cl.lookup y.1 = some c)
    (run : eO G g cs e l (fR own.length caps σd) hd1 = .ok ds hdF)
    (hRR : ∀ C s' m H' ρ' vs, s2.heap.objs.size < C → s'.heap.Ns C m → Inv X pins σ H' s' → H' C = none → Ext ρ1 H1 ρ' H' → RH X.K ρ' H' hdF → H1 s2.heap.objs.size = none → H' s2.heap.objs.size = some (.lst vs) → s2.heap.objs.size ∉ ρ' → RDs X.K ρ' H' ds vs →
      RR (.ref s2.heap.objs.size) C (.ok .next) s') :
    wpAny (model X.prog X.w) X.A (newList []) (fun acc s₃ => wpAny (model X.prog X.w) X.A (newFunctionEnv scope X.env.globals cl [] X.env.qual none .none (some X.env)) (fun cenv s₄ =>
      codeAny (model X.prog X.w) X.A (.compStart (.ListComp elt [⟨tg, iter, ifs, 0⟩] scope pos) 0 (.ref it) acc { cenv with scope := relabel scope X.env }) (RR acc cenv.locals) s₄) E s₃) E s2 := by
  refine wpAny_newObj_type (wpAny_newFunctionEnv S.cell (by intro y hy; simp at hy) (fun h₁ hns₁ hsb₁ => ?_) S.kind)
  dsimp only at hns₁ hsb₁ ⊢
  generalize hH2 : s2.heap.push { cls := .type "list", dict := none, data := .seq ([] : List Value).toArray } = H2 at hns₁ hsb₁ ⊢
  have hC : H2.objs.size = s2.heap.objs.size + 1 := by rw [← hH2, Heap.size_push]
  have hDC : s2.heap.objs.size ≠ H2.objs.size := by rw [hC]; exact Nat.ne_of_lt (Nat.lt_succ_self _)
  have old : ∀ b o, s2.heap.get? b = some o → h₁.get? b = some o := fun b o e => hsb₁.extBut b o (by rw [hC]; exact Nat.ne_of_lt (Nat.lt_succ_of_lt (Heap.lt_size e))) (Heap.get?_push_of_some _ (hH2 ▸ Heap.get?_push_of_some _ e))
  have hacc : h₁.get? s2.heap.objs.size = some { cls := .type "list", data := .seq #[] } := hsb₁.extBut _ _ hDC (Heap.get?_push_of_some _ (hH2 ▸ Heap.get?_push_size _ rfl))
  have hlt : ∀ b ∈ fp, b < s2.heap.objs.size := fun b hb => by
    obtain ⟨o, ho, _⟩ := T.obj 0 _ st0 b hb
    exact Heap.lt_size ho
  have hCl : s2.heap.objs.size < H2.objs.size := by rw [hC]; exact Nat.lt_succ_self _
  have hD0 : H1 s2.heap.objs.size = none := I1.hok.fresh (Nat.le_refl _)
  have st1 : tn 0 h₁ := T.keep 0 _ _ st0 fun b hb o e => old b o e
  have hn1 : s2.heap.objs.size ∉ ρ1 := rs1.hp.free hD0
  obtain ⟨hG, hT, hE⟩ := hin cl H2.objs.size s2 H1 fp
  have I' := B0 (tk := s2.toks + ([] : List (Str × Value)).length) I1 S hCl hcl1 hcl2 hf hlt hns₁ old hacc
  have fpC : ∀ {pins' : List (Addr × Obj)} {H' : Hp}, (∀ b ∈ fp, H' b = none) → ∀ b ∈ fp, pJ (cxC X (own ++ capn) scope cl H2.objs.size s2 H1 fp) [] H' b := fun {pins' H'} hn b hb => by
    obtain ⟨f0, f1, f2, f3, f4, f5⟩ := hf b hb
    have lt := hlt b hb
    refine ⟨hn b hb, fun z => absurd lt (by rw [show b = H2.objs.size from z, hC]; exact Nat.not_lt.mpr (Nat.le_succ _)), fun z => ?_, .inl hb, fun x c e => f4 x c (hcl1 x c e), fun p hp => absurd (show p ∈ ([] : List (Addr × Obj)) from hp) (by simp)⟩
    rcases List.mem_cons.mp (I1.stkSub b z) with q | q
    · exact f1 q
    · exact f2 q
  have loop : ∀ s₃ : Shared, s₃ = { s2 with heap := h₁, toks := s2.toks + ([] : List (Str × Value)).length } →
      codeAny (model X.prog X.w) X.A (.compLoop (.ListComp elt [⟨tg, iter, ifs, 0⟩] scope pos) 0 (.ref it) (.ref s2.heap.objs.size) (compEnvC scope cl H2.objs.size X.env)) (RR (.ref s2.heap.objs.size) H2.objs.size) s₃ := by
    rintro s₃ rfl
    refine tU (E := fun _ _ => False) (fun _ _ z => z) (fun n s' => ∃ d : CD, n = l.length - d.i ∧ CI X own capn scope cl s2 H2.objs.size H1 ρ1 fp tn G g cs e l hdF ds d s') ?_ l.length
      ⟨⟨0, [], [], ds, ρ1, _, hd1, _, _⟩, by simp, Nat.zero_le _, I', st1, fun b hb => ?_, bh, hn1, Nat.le_refl _, Ext.same (bT hD0), yt S rs1 hD0, RDs.nil, by simpa using run, rfl⟩
    · rintro n s' ⟨⟨i, ys, acc, rest, ρ', σd', hd', H', σ'⟩, rfl, ci⟩
      have hil : i ≤ l.length := ci.le
      have I' : Inv (cxC X (own ++ capn) scope cl H2.objs.size s2 H1 fp) [] σ' H' s' := ci.inv
      have stn : tn i s'.heap := ci.st
      have hfp : ∀ b ∈ fp, H' b = none := ci.fr
      have hDy : H' s2.heap.objs.size = some (.lst ys) := ci.at'
      have hnD : s2.heap.objs.size ∉ ρ' := ci.out
      have hyl : ys.length ≤ i := ci.yl
      have ex : Ext ρ1 H1 ρ' H' := ci.ex
      have rs' : RS X.K ρ' H' σd' hd' σ' := ci.rs
      have racc : RDs X.K ρ' H' acc ys := ci.ac
      have hrun : eO G g cs e (l.drop i) σd' hd' = .ok rest hdF := ci.run
      have hds : acc ++ rest = ds := ci.eq
      by_cases hlt' : i < l.length
      · have hdi : l[i]? = some l[i] := by simp [hlt']
        rw [List.drop_eq_getElem_cons hlt'] at hrun
        unfold eO at hrun
        by_cases hh : G hd'
        · rw [if_pos hh] at hrun
          obtain ⟨go, yl⟩ := wk.go ρ' H' hd' i _ ex rs'.hp hh hdi
          cases c : g l[i] σd' with
          | none => rw [c] at hrun; cases hrun
          | some σd2 =>
            rw [c] at hrun
            simp only at hrun
            refine thn (T.item (cxC X (own ++ capn) scope cl H2.objs.size s2 H1 fp) rfl rfl rfl hc i [] s' σ' H' (fun _ _ => False) I' (fpC (pins' := []) hfp) stn go) fun r s₁ ⟨u, hr, h4⟩ => ?_
            subst hr
            refine thn h4 fun _ s5 ⟨x, H5, I5, r5, y5, st5, fr5⟩ => ?_
            obtain ⟨sm, rx⟩ := yl x H5 y5
            have I5' := I5.pinned (fpC (pins' := []) fr5) (T.obj _ _ st5)
            have rs5 := rs'.same sm
            have hDy5 := sm _ _ hDy
            refine thn (hG _ s5 σ' H5 x u (fun σ6 H6 => H6 = H5 ∧ RS X.K ρ' H5 σd2 hd' σ6) I5' r5 ⟨ρ', σd', hd', l[i], σd2, rs5, rx, c, fun σ6 rs6 => ⟨rfl, rs6⟩⟩) fun _ s6 ⟨σ6, H6, I6, hH6, rs6⟩ => ?_
            subst hH6
            cases c2 : iN cs σd2 hd' with
            | exc z h7 => rw [c2] at hrun; cases hrun
            | bad => rw [c2] at hrun; cases hrun
            | ok b hd7 =>
              rw [c2] at hrun
              simp only [aQ] at hrun
              refine thn (hT _ s6 σ6 H6 (fun b' H7 => b' = b ∧ ∃ ρ7, Ext ρ' H6 ρ7 H7 ∧ RS X.K ρ7 H7 σd2 hd7 σ6) I6 ⟨ρ', σd2, hd', rs6, by
                rw [c2]
                exact fun b' H7 ρ7 ex7 rs7 q => ⟨q.symm, ρ7, ex7, rs7⟩⟩) fun b' s7 ⟨H7, I7, hb', ρ7, ex7, rs7⟩ => ?_
              subst hb'
              have stay : ∀ {σ8 : St} {H8 : Hp} {s8 : Shared}, Inv (cxC X (own ++ capn) scope cl H2.objs.size s2 H1 fp) ([] ++ nC fp s5.heap) σ8 H8 s8 → tn (i + 1) s8.heap ∧ ∀ b ∈ fp, H8 b = none := fun {σ8 H8 s8} I8 =>
                ⟨T.keep _ _ _ st5 fun b hb o e => (I8.pin (b, o) (List.mem_append_right _ (List.mem_append_right _ (ib hb e)))).1, fun b hb => by
                  obtain ⟨o, e, d⟩ := T.obj _ _ st5 b hb
                  exact (I8.pin (b, o) (List.mem_append_right _ (List.mem_append_right _ (ib hb e)))).2.1⟩
              have ex5 : Ext ρ' H' ρ7 H7 := (Ext.same sm).trans ex7
              have hDy7 : H7 s2.heap.objs.size = some (.lst ys) := ex5.frame _ _ hDy hnD
              have hnD7 := ex5.out hDy hnD
              have racc7 := racc.mono (rs'.hp.kp ex5)
              cases b' with
              | false =>
                simp only [Bool.false_eq_true, if_false] at hrun ⊢
                obtain ⟨st8, f8⟩ := stay I7
                exact ⟨l.length - (i + 1), by omega, ⟨i + 1, ys, acc, rest, ρ7, σd2, hd7, H7, σ6⟩, rfl, hlt', I7.unpinned, st8, f8, hDy7, hnD7, Nat.le_succ_of_le hyl, ex.trans ex5, rs7, racc7, hrun, hds⟩
              | true =>
                simp only [if_true] at hrun ⊢
                cases c3 : e σd2 hd7 with
                | exc z h7 => rw [c3] at hrun; cases hrun
                | bad => rw [c3] at hrun; cases hrun
                | ok d hd8 =>
                  rw [c3] at hrun
                  simp only [aQ] at hrun
                  cases c4 : eO G g cs e (l.drop (i + 1)) σd2 hd8 with
                  | exc z h7 => rw [c4] at hrun; cases hrun
                  | bad => rw [c4] at hrun; cases hrun
                  | ok rest' hd9 =>
                    rw [c4] at hrun
                    simp only [aQ, Res.ok.injEq] at hrun
                    obtain ⟨hrest, hF⟩ := hrun
                    subst hrest hF
                    refine thn (hE _ s7 σ6 H7 (fun v H8 => ∃ ρ8, Ext ρ7 H7 ρ8 H8 ∧ RS X.K ρ8 H8 σd2 hd8 σ6 ∧ RD X.K ρ8 H8 d v) I7 ⟨ρ7, σd2, hd7, rs7, by
                      rw [c3]
                      exact fun v H8 ρ8 ex8 rs8 q => ⟨ρ8, ex8, rs8, q⟩⟩) fun u8 s8 ⟨v8, H8, I8, r8, ρ8, ex8, rs8, rd8⟩ => ?_
                    have hDy8 : H8 s2.heap.objs.size = some (.lst ys) := ex8.frame _ _ hDy7 hnD7
                    have hnD8 := ex8.out hDy7 hnD7
                    refine thn (rV _ s8 σ6 H8 (.ref s2.heap.objs.size) [v8] (.ref s2.heap.objs.size) [u8] (fun _ H9 => H9 = upd H8 s2.heap.objs.size (.lst (ys ++ [v8]))) I8 rfl (.cons r8 .nil) ⟨_, ys, v8, rfl, rfl, hDy8, by have := wk.sz; omega, rfl⟩) fun u9 s9 ⟨v9, H9, I9, r9, q9⟩ => ?_
                    subst q9
                    obtain ⟨st9, f9⟩ := stay I9
                    obtain ⟨rs9, k9⟩ := rs8.other (zs := ys ++ [v8]) hDy8 hnD8
                    exact ⟨l.length - (i + 1), by omega, ⟨i + 1, ys ++ [v8], acc ++ [d], rest', ρ8, σd2, hd8, _, σ6⟩, rfl, hlt', I9.unpinned, st9, f9, bh, hnD8, by simp; exact hyl, (ex.trans (ex5.trans ex8)).other hD0, rs9,
                      ((racc7.mono (rs7.hp.kp ex8)).mono k9).append (RDs.cons (rd8.mono k9) RDs.nil), c4, by rw [← hds]; simp⟩
        · rw [if_neg hh] at hrun; cases hrun
      · have e0 : i = l.length := by omega
        subst e0
        rw [List.drop_length] at hrun
        unfold eO at hrun
        by_cases hh : G hd'
        · rw [if_pos hh] at hrun
          simp only [Res.ok.injEq] at hrun
          obtain ⟨hrest, hF⟩ := hrun
          subst hrest hF
          rw [List.append_nil] at hds
          subst hds
          refine thn (T.done (cxC X (own ++ capn) scope cl H2.objs.size s2 H1 fp) rfl rfl rfl hc _ [] s' σ' H' (fun _ _ => False) I' (fpC (pins' := []) hfp) stn (wk.stop ρ' H' hd' ex rs'.hp hh)) fun r s₁ ⟨hr, I4⟩ => ?_
          subst hr
          obtain ⟨m, hm, _⟩ := I4.loc
          refine hRR H2.objs.size s₁ m H' ρ' ys hCl hm ?_ I4.free ex rs'.hp hD0 hDy hnD racc
          exact I1.call' I4.os I4.base I4.hok I4.bare fun b hb => by
            obtain ⟨f0, f1, f2, f3, f4, f5⟩ := hf b hb
            exact ⟨f3, f1, f4, f5⟩
        · rw [if_neg hh] at hrun; cases hrun
    · show upd H1 _ _ b = none
      rw [aD (Nat.ne_of_lt (hlt b hb))]
      exact (hf b hb).1
  exact codeAny_compStart_list (loop _ rfl) (T.self _ 0 _ _ _ st1 (loop _ rfl))
end
section
variable {X : Cx} {pos : Pos} {scope : Scope} {own capn : List Str} {caps : List Nat}
theorem eX {elt tg iter : Expr} {ifs : List Expr} {f : IF} {g : GF} {cs : List TF} {e : EF} (hc : X.calm = true) (S : bR X scope own capn caps) (hi : MI X tg iter f)
    (hin : ∀ cl C s H ex, MG (cxC X (own ++ capn) scope cl C s H ex) tg g ∧ MTs (cxC X (own ++ capn) scope cl C s H ex) ifs cs ∧ ME (cxC X (own ++ capn) scope cl C s H ex) elt e)
    (hs : ∀ x, foldedSetIterable iter X.env x = pure x := by intro _; rfl) : MF X (.ListComp elt [⟨tg, iter, ifs, 0⟩] scope pos) (bO own.length caps f g cs e) := by
  intro pins s σ H Q I ⟨ρ, σd, hd, rs, p⟩
  rw [eval_ListComp]
  unfold bO at p
  cases c : f σd hd with
  | exc z h7 => rw [c] at p; exact p.elim
  | bad => rw [c] at p; exact p.elim
  | ok q hd1 =>
    obtain ⟨l, gd⟩ := q
    rw [c] at p
    simp only [aQ] at p
    obtain ⟨cl, h1, hcl1, hcl2⟩ := jX (scope := scope) (env := X.env) fun y hy hyf => I.ok.has y.1 (S.free y hy hyf)
    refine wpAny_comprehension_free (use := none) rfl hs h1 S.kind S.names (thn (hi pins s σ H (fun J H1 => ∃ ρ1, Ext ρ H ρ1 H1 ∧ RS X.K ρ1 H1 σd hd1 σ ∧ pN X.K ρ1 H1 J l gd) I ⟨ρ, σd, hd, rs, by
      rw [c]
      exact fun J H' ρ' ex rs' wk => ⟨ρ', ex, rs', wk⟩⟩) fun v s1 h1 => thn h1 fun itv s2 h2 => ?_)
    obtain ⟨it, fp, tn, J, H1, rfl, I1, T, st0, hf, ρ1, ex1, rs1, wk⟩ := h2
    cases c2 : cz gd l g cs e l (fR own.length caps σd) hd1 with
    | exc z h7 => rw [c2] at p; exact p.elim
    | bad => rw [c2] at p; exact p.elim
    | ok ds hdF =>
      rw [c2] at p
      refine ly (RR := fun acc C => compPost (model X.prog X.w) X.A X.xe none (EP X pins σ Q) acc C) hc S hin I1 T st0 hf rs1 wk.g hcl1 hcl2 ((tT _ _ _).symm.trans c2) fun C s' m H' ρ' vs hC hn I' hCn ex rh hD0 hD hnD rds => ?_
      refine ⟨m, hn, fun h' sb => ⟨.ref s2.heap.objs.size, H', ?_, rfl, ?_⟩⟩
      · refine I'.turned (it := C) (t' := s'.toks) (fun b o hb e => (sb.2 b hb).trans e) hCn ?_ (.inr (Nat.le_of_lt (Nat.lt_of_le_of_lt I1.sz hC))) (fun x c e z => ?_) fun q hq z => ?_
        · exact Nat.ne_of_gt (Nat.lt_trans I1.lt hC)
        · obtain ⟨v, o, ho, hd⟩ := I1.cell x c e
          exact absurd (Nat.lt_trans (Heap.lt_size ho) hC) (by rw [z]; exact Nat.lt_irrefl _)
        · exact absurd (Nat.lt_trans (Heap.lt_size (I1.pin q hq).1) hC) (by rw [z]; exact Nat.lt_irrefl _)
      · exact p _ vs H' ρ' (ex1.trans ex) (rs.ext (ex1.trans ex) rh) (ex1.fresh hD0 (rs1.hp.free hD0)) hD hnD rds
theorem jo {i : Nat} {x : Str} {pos' : Pos} {elt tg iter : Expr} {ifs : List Expr} {f : IF} {g : GF} {cs : List TF} {e : EF} {cpos : Pos} (hN : X.N.Nodup) (hi' : X.N[i]? = some x) (hx : Loc X.env.scope x) (hc : X.calm = true) (S : bR X scope own capn caps) (hi : MI X tg iter f)
    (hin : ∀ cl C s H ex, MG (cxC X (own ++ capn) scope cl C s H ex) tg g ∧ MTs (cxC X (own ++ capn) scope cl C s H ex) ifs cs ∧ ME (cxC X (own ++ capn) scope cl C s H ex) elt e)
    (hsw : swapsWith (.ListComp elt [⟨tg, iter, ifs, 0⟩] scope cpos) (some (.Name x pos')) pos.line X.env = pure true := by rfl)
    (hs : ∀ x, foldedSetIterable iter X.env x = pure x := by intro _; rfl) (hf' : X.fn x = true ∨ X.env.scope.names.lookup x = some .local := by first | exact .inl rfl | exact .inr rfl | assumption) :
    MS X (.Assign [.Name x pos'] (.ListComp elt [⟨tg, iter, ifs, 0⟩] scope cpos) pos) (aH (gN i) (bo (bO own.length caps f g cs e))) := by
  intro pins s σ H En I ⟨ρ, σd, hd, rs, p⟩
  rw [exec_Assign_Name_used _ _ _ _ hsw]
  refine wpAny_bind (wpAny_standAt ?_)
  show wpAny _ _ ((comprehension _ scope X.env _ (newList []) _ _ _ >>= fun _ => pure ()) >>= fun _ => pure Flow.next) _ _ _
  have p1 := bp.outE (σ := σ) p
  unfold bo bO at p1
  cases c : f σd hd with
  | exc z h7 => rw [c] at p1; exact p1.elim
  | bad => rw [c] at p1; exact p1.elim
  | ok q hd1 =>
    obtain ⟨l, gd⟩ := q
    rw [c] at p1
    simp only [aQ] at p1
    obtain ⟨cl, h1, hcl1, hcl2⟩ := jX (scope := scope) (env := X.env) fun y hy hyf => I.ok.has y.1 (S.free y hy hyf)
    refine wpAny_bind (wpAny_bind (wpAny_comprehension_free (Q := fun _ s' => wpAny (model X.prog X.w) X.A (pure ()) (fun _ s' => wpAny (model X.prog X.w) X.A (pure Flow.next) (SP X pins En) X.xe s') X.xe s') (use := some (assign (.Name x pos') X.env)) rfl hs h1 S.kind S.names (thn (hi pins s σ H (fun J H1 => ∃ ρ1, Ext ρ H ρ1 H1 ∧ RS X.K ρ1 H1 σd hd1 σ ∧ pN X.K ρ1 H1 J l gd) I ⟨ρ, σd, hd, rs, by
      rw [c]
      exact fun J H' ρ' ex rs' wk => ⟨ρ', ex, rs', wk⟩⟩) fun v s1 h1 => thn h1 fun itv s2 h2 => ?_)))
    obtain ⟨it, fp, tn, J, H1, rfl, I1, T, st0, hf, ρ1, ex1, rs1, wk⟩ := h2
    cases c2 : cz gd l g cs e l (fR own.length caps σd) hd1 with
    | exc z h7 => rw [c2] at p1; exact p1.elim
    | bad => rw [c2] at p1; exact p1.elim
    | ok ds hdF =>
      rw [c2] at p1
      simp only [aQ] at p1
      by_cases hz : ds.length ≤ SZ
      · rw [if_pos hz] at p1
        refine ly (RR := fun acc C => compPost (model X.prog X.w) X.A X.xe (some (assign (.Name x pos') X.env)) _ acc C) hc S hin I1 T st0 hf rs1 wk.g hcl1 hcl2 ((tT _ _ _).symm.trans c2) fun C s' m H' ρ' vs hC hn I' hCn ex rh hD0 hD hnD rds => ?_
        refine wpAny_assign_Name (rJ I' hN hi' hx (v := .ref s2.heap.objs.size) rfl (fun s'' I'' hsb => ?_) hf')
        have hCl : C ≠ X.env.locals := Nat.ne_of_gt (Nat.lt_trans I1.lt hC)
        have hCc : ∀ y c, X.env.cells.lookup y = some c → c ≠ C := fun y c e z => by
          obtain ⟨v, o, ho, hd⟩ := I1.cell y c e
          exact absurd (Nat.lt_trans (Heap.lt_size ho) hC) (by rw [z]; exact Nat.lt_irrefl _)
        refine ⟨m, ?_, fun h' sb => wpAny_pure (wpAny_pure ?_)⟩
        · obtain ⟨a, sa, ha⟩ := hsb
          refine hn.sameBut sa ?_
          rcases ha with z | z
          · rw [z]; exact hCl
          · exact Ne.symm (hCc _ _ z)
        · have I3 : Inv X pins (σ.set i (some (.ref s2.heap.objs.size))) H' { s'' with heap := h' } := I''.turned (it := C) (t' := s''.toks) (fun b o hb e => (sb.2 b hb).trans e) hCn hCl (.inr (Nat.le_of_lt (Nat.lt_of_le_of_lt I1.sz hC))) hCc fun q hq z =>
            absurd (Nat.lt_trans (Heap.lt_size (I1.pin q hq).1) hC) (by rw [z]; exact Nat.lt_irrefl _)
          have ex' : Ext ρ H ρ' H' := ex1.trans ex
          have rh' := rh.alloc hD hnD rds
          have hH0 : H s2.heap.objs.size = none := ex1.fresh hD0 (rs1.hp.free hD0)
          have exA : Ext ρ H (ρ' ++ [s2.heap.objs.size]) H' := ⟨by obtain ⟨t, rfl⟩ := ex'.pre; exact ⟨t ++ [s2.heap.objs.size], by simp⟩, fun a ha => by
            rcases List.mem_append.mp ha with z | z
            · exact ex'.new a z
            · simp at z; subst z; exact .inr hH0, ex'.frame⟩
          obtain ⟨ρ2, d2, hd2, e2, rs2, rd2, pn⟩ := p1 (.ref s2.heap.objs.size) H' (ρ' ++ [s2.heap.objs.size]) exA (rs.ext exA rh') (by
            simp only [rD, RD]
            refine ⟨s2.heap.objs.size, ?_, rfl⟩
            rw [← rh.len]
            simp)
          exact ⟨_, H', I3, pn _ H' ρ2 Ext.refl ⟨rs2.hp, rs2.st.set i rd2⟩⟩
      · rw [if_neg hz] at p1; exact p1.elim
end
end Fm
set_option Elab.async false
set_option linter.all false
set_option maxRecDepth 100000
namespace Fm
open PySem PySem.Spec L2 PyProof.Rows
mutual
def rfs (k : Nat) : D → Prop
  | .ref n => n < k
  | .tup l => iS k l
  | .lit l => iS k l
  | .exn _ l => iS k l
  | _ => True
def iS (k : Nat) : List D → Prop
  | [] => True
  | x :: xs => rfs k x ∧ iS k xs
end
section
variable {K : PySem.W.Frag} {ρ ρ' t : List Addr} {H H' : Hp} {hd hd' : Hd}
mutual
theorem RD.rfs : ∀ {d : D} {v : V}, RD K ρ H d v → Fm.rfs ρ.length d
  | .non, _, _ => by simp only [Fm.rfs]
  | .bl _, _, _ => by simp only [Fm.rfs]
  | .int _, _, _ => by simp only [Fm.rfs]
  | .str _, _, _ => by simp only [Fm.rfs]
  | .tup l, _, h => by
    simp only [RD] at h; obtain ⟨p, vs, _, _, h2⟩ := h
    simp only [Fm.rfs]; exact RDs.rfs h2
  | .lit l, _, h => by
    simp only [RD] at h; obtain ⟨p, vs, _, _, h2⟩ := h
    simp only [Fm.rfs]; exact RDs.rfs h2
  | .ref n, _, h => by
    simp only [RD] at h; obtain ⟨a, h1, _⟩ := h
    simp only [Fm.rfs]; exact (List.getElem?_eq_some_iff.mp h1).1
  | .exn _ _, _, h => by simp only [RD] at h; obtain ⟨rfl, _⟩ := h; simp only [Fm.rfs, Fm.iS]
theorem RDs.rfs : ∀ {l : List D} {vs : List V}, RDs K ρ H l vs → Fm.iS ρ.length l
  | [], _, _ => by simp only [Fm.iS]
  | d :: ds, _, h => by
    simp only [RDs] at h; obtain ⟨v, r, _, h1, h2⟩ := h
    simp only [Fm.iS]; exact ⟨RD.rfs h1, RDs.rfs h2⟩
end
mutual
theorem RD.cut : ∀ {d : D} {v : V}, RD K (ρ ++ t) H d v → Fm.rfs ρ.length d → RD K ρ H d v
  | .non, _, h, _ => by simp only [RD] at h ⊢; exact h
  | .bl _, _, h, _ => by simp only [RD] at h ⊢; exact h
  | .int _, _, h, _ => by simp only [RD] at h ⊢; exact h
  | .str _, _, h, _ => by simp only [RD] at h ⊢; exact h
  | .tup l, _, h, q => by
    simp only [RD] at h ⊢; simp only [Fm.rfs] at q
    obtain ⟨p, vs, e, h1, h2⟩ := h
    exact ⟨p, vs, e, h1, RDs.cut h2 q⟩
  | .lit l, _, h, q => by
    simp only [RD] at h ⊢; simp only [Fm.rfs] at q
    obtain ⟨p, vs, e, h1, h2⟩ := h
    exact ⟨p, vs, e, h1, RDs.cut h2 q⟩
  | .ref n, _, h, q => by
    simp only [RD] at h ⊢; simp only [Fm.rfs] at q
    obtain ⟨a, h1, h2⟩ := h
    exact ⟨a, by rwa [List.getElem?_append_left q] at h1, h2⟩
  | .exn _ _, _, h, _ => by simp only [RD] at h ⊢; exact h
theorem RDs.cut : ∀ {l : List D} {vs : List V}, RDs K (ρ ++ t) H l vs → Fm.iS ρ.length l → RDs K ρ H l vs
  | [], _, h, _ => by simp only [RDs] at h ⊢; exact h
  | d :: ds, _, h, q => by
    simp only [RDs] at h ⊢; simp only [Fm.iS] at q
    obtain ⟨v, r, e, h1, h2⟩ := h
    exact ⟨v, r, e, RD.cut h1 q.1, RDs.cut h2 q.2⟩
end
mutual
theorem nS {k : Nat} : ∀ {d : D}, pure? d = true → Fm.rfs k d
  | .non, _ => by simp only [Fm.rfs]
  | .bl _, _ => by simp only [Fm.rfs]
  | .int _, _ => by simp only [Fm.rfs]
  | .str _, _ => by simp only [Fm.rfs]
  | .tup l, h => by simp only [pure?] at h; simp only [Fm.rfs]; exact gY h
  | .lit l, h => by simp only [pure?] at h; simp only [Fm.rfs]; exact gY h
  | .exn _ l, h => by simp only [pure?] at h; simp only [Fm.rfs]; exact gY h
  | .ref _, h => by simp only [pure?] at h; cases h
theorem gY {k : Nat} : ∀ {l : List D}, dn l = true → Fm.iS k l
  | [], _ => by simp only [Fm.iS]
  | x :: xs, h => by
    simp only [dn, Bool.and_eq_true] at h
    simp only [Fm.iS]; exact ⟨nS h.1, gY h.2⟩
end
def DS (k : Nat) : bL → Prop
  | .lst l => Fm.iS k l
  | .dct l => Fm.iS k (l.map (·.2))
theorem RC.rfs {c : bL} {a : Addr} (h : RC K ρ H c a) : DS ρ.length c := by
  cases c with
  | lst l => obtain ⟨vs, _, h2⟩ := h; exact h2.rfs
  | dct l => obtain ⟨vs, _, _, h2⟩ := h; exact h2.rfs
theorem RC.cut {c : bL} {a : Addr} (h : RC K (ρ ++ t) H c a) (q : DS ρ.length c) : RC K ρ H c a := by
  cases c with
  | lst l => obtain ⟨vs, h1, h2⟩ := h; exact ⟨vs, h1, h2.cut q⟩
  | dct l => obtain ⟨vs, h1, h2, h3⟩ := h; exact ⟨vs, h1, h2, h3.cut q⟩
theorem tV {k : Nat} {c : bL} (h : vP c = true) : DS k c := by
  cases c with
  | lst l => exact gY h
  | dct l =>
    have : ∀ l : List (Int × D), (l.all fun p => pure? p.2) = true → Fm.iS k (l.map (·.2)) := by
      intro l
      induction l with
      | nil => intro _; simp only [List.map_nil, Fm.iS]
      | cons x l ih => intro h; simp only [List.all_cons, Bool.and_eq_true] at h; simp only [List.map_cons, Fm.iS]; exact ⟨nS h.1, ih h.2⟩
    exact this l h
theorem RH.back (r : RH K ρ H hd) (r' : RH K (ρ ++ t) H' hd') (o : A6 hd hd') : RH K ρ H' (hd'.take hd.length) := by
  have hl : (ρ ++ t).length = hd'.length := r'.len
  refine ⟨by rw [List.length_take, ← hl, List.length_append, ← r.len]; omega, (List.nodup_append.mp r'.nd).1, fun n c a h1 h2 => ?_⟩
  have hn : n < hd.length := by rw [← r.len]; exact (List.getElem?_eq_some_iff.mp h2).1
  rw [List.getElem?_take_of_lt hn] at h1
  have q := r'.cel n c a h1 (by rw [List.getElem?_append_left (by rw [r.len]; exact hn)]; exact h2)
  refine q.cut ?_
  rcases o n c hn h1 with z | z
  · exact (r.cel n c a z h2).rfs
  · exact tV z
def kx (K : PySem.W.Frag) (ρ : List Addr) (H : Hp) (r : Res D) (Q : VK) : Prop := match r with
  | .ok d hd' => ∀ v H' ρ', Ext ρ H ρ' H' → RH K ρ' H' hd' → RD K ρ' H' d v → Q v H'
  | _ => False
def spF (K : PySem.W.Frag) (F : Fn) (np : Nat) : Sp := fun vs H Q _ => ∃ ρ hd ds, RH K ρ H hd ∧ RDs K ρ H ds vs ∧ ds.length = np ∧ kx K ρ H (F ds hd) Q
theorem Ext.short (e : Ext ρ H (ρ ++ t) H') : Ext ρ H ρ H' := ⟨⟨[], by simp⟩, fun _ h => .inl h, e.frame⟩
theorem kx.letGo {r : Res D} {Q : VK} (rh : RH K ρ H hd) (p : kx K ρ H (letGo hd r) Q) : kx K ρ H r Q := by
  cases r with
  | exc x h' => exact p
  | bad => exact p
  | ok d h' =>
    intro v H' ρ' ex rh' rd
    simp only [Fm.letGo] at p
    split at p
    · rename_i hc
      obtain ⟨t, rfl⟩ := ex.pre
      exact p v H' ρ ex.short (rh.back rh' hc.2) (rd.cut (nS hc.1))
    · exact p v H' ρ' ex rh' rd
theorem kx.runB {n : Nat} {b : SF} {ds : List D} {Q : VK} (p : kx K ρ H (runB n b ds hd) Q) : bp K ρ H (b (ds.map some ++ List.replicate (n - ds.length) none) hd) { nx := fun _ H' => Q .non H', rt := Q } := by
  unfold Fm.runB at p
  cases e : b (ds.map some ++ List.replicate (n - ds.length) none) hd with
  | nx σ h' => rw [e] at p; exact fun σ' H' ρ' ex rs => p .non H' ρ' ex rs.hp (by simp only [RD])
  | rt d h' => rw [e] at p; exact p
  | bk σ h' => rw [e] at p; exact p.elim
  | ct σ h' => rw [e] at p; exact p.elim
  | exc x σ h' => rw [e] at p; exact p.elim
  | bad => rw [e] at p; exact p.elim
theorem r6 {N : List Str} {ds : List D} {vs : List V} (r : RDs K ρ H ds vs) : RSt K ρ H (ds.map some ++ List.replicate (N.length - ds.length) none) (L2.iU N vs) := by
  have hl := r.length
  refine ⟨by simp [L2.iU, hl], fun i d e => ?_⟩
  simp only [slot] at e
  by_cases hi : i < ds.length
  · rw [List.getElem?_append_left (by simpa using hi)] at e
    simp only [List.getElem?_map, List.getElem?_eq_getElem hi, Option.map_some] at e
    cases e
    obtain ⟨v, hv, q⟩ := r.get (i := i) (d := ds[i]) (by simp [hi])
    refine ⟨v, ?_, q⟩
    unfold L2.iU
    rw [List.getElem?_append_left (by simp; omega)]
    simp [hv]
  · rw [List.getElem?_append_right (by simpa using Nat.le_of_not_lt hi)] at e
    simp only [List.getElem?_replicate] at e
    by_cases hq : i - (List.map some ds).length < N.length - ds.length
    · simp only [hq, if_true] at e; cases e
    · simp only [hq, if_false] at e; cases e
end
structure Def (P : Program) (w : World) (K : PySem.W.Frag) (mg : Str → Option Value) (base : Heap) (x : Str) (k np : Nat) (F : Fn) : Prop where
  ex : ∃ f fd ps, mg x = some (.ref f) ∧ PySem.W.keepIn K (.ref f) = true ∧ jB K fd ps [] ∧ ce P w K mg base CX0 k f fd ps (spF K F np)
section
variable {P : Program} {w : World} {K : PySem.W.Frag} {mg : Str → Option Value} {base : Heap}
theorem cA {x : Str} {st : Stmt} {f : Addr} {fd : FuncData} {N ps : List Str} {k : Nat} {b : SF} (F : Fun K x x st f fd) (S : aR N ps (aj st))
    (body : ∀ (cdv : Value) (A : Around) (outer : List Env) (s : Shared) (H : Hp) (E : XK), gE k (A.deeper (envOfC x (aj st) s.heap.objs.size f cdv)) → MSs (mW CX0 P w K mg base N x (aj st) f cdv A outer s H E).nox (aN st) b) :
    ce P w K mg base CX0 (k + 1) f fd ps (spF K (a8 ps.length N.length b) ps.length) := by
  refine F.ok S (fun vs H Q E ⟨ρ, hd, ds, rh, rd, hl, p⟩ => by rw [← rd.length]; exact hl) fun cdv A outer s H vs Q E hr ⟨ρ, hd, ds, rh, rd, hl, p⟩ => ⟨_, body cdv A outer s H E hr, ρ, _, hd, ⟨rh, r6 rd⟩, ?_⟩
  simp only [a8, hl, if_true] at p
  exact (kx.letGo rh p).runB
theorem Def.mk' {x : Str} {f : Addr} {fd : FuncData} {ps : List Str} {k np : Nat} {F : Fn} (hm : mg x = some (.ref f)) (hk : PySem.W.keepIn K (.ref f) = true) (hb : jB K fd ps []) (h : ce P w K mg base CX0 k f fd ps (spF K F np)) : Def P w K mg base x k np F := ⟨f, fd, ps, hm, hk, hb, h⟩
end
section
variable {X : Cx} {pos p : Pos}
theorem ax {x : Str} {k np : Nat} {F : Fn} {e : Expr} {es : List Expr} {r : LF} (hd : Def X.prog X.w X.K X.mg X.base x k np F) (hr : gE k X.A) (hg : Gl X x) (ha : MA X (e :: es) r) (hnp : ∀ ds h d h', F ds h = .ok d h' → ds.length = np)
    (hdb : (x == ("__debug__" : Str)) = false := by decide) (he : starEach (e :: es) X.env = (false, eval e X.env) :: starEach es X.env := by rfl) (hpl : (backTo pos (starEach es X.env)).any (·.1) = false := by rfl) :
    ME X (.Call (.Name x p) (e :: es) [] pos) (aw F r) := by
  obtain ⟨f, fd, ps, h1, h2, h3, h4⟩ := hd.ex
  refine PE.imp (A0 h4 hr hg h1 h2 h3 .nil Jl ha hdb he hpl) fun σ H Q ⟨ρ, σd, hd, rs, pp⟩ => ⟨ρ, σd, hd, rs, (br.bind (R := rDs X.K) pp).imp fun vs H1 ⟨ρ1, ds, hd1, e1, rs1, rv, p1⟩ => ?_⟩
  rw [List.append_nil]
  cases c : F ds hd1 with
  | exc z h' => rw [c] at p1; exact p1.elim
  | bad => rw [c] at p1; exact p1.elim
  | ok d hd2 =>
    rw [c] at p1
    refine ⟨ρ1, hd1, ds, rs1.hp, rv, hnp _ _ _ _ c, ?_⟩
    rw [c]
    exact fun v H' ρ' ex rh rd => p1 v H' ρ' ex (rs1.ext ex rh) rd
theorem ay {np n : Nat} {b : SF} : ∀ ds h d h', a8 np n b ds h = .ok d h' → ds.length = np := by
  intro ds h d h' e
  unfold a8 at e
  split at e
  · assumption
  · cases e
end
theorem Ju {l : PySem.W.OpenLaw} {q : Program} {loose : List Str} {XP : (Str → Option Value) → Heap → Prop} {YP : World → Heap → Prop} {d : DefRec} {K : Params → PySem.W.Frag} {F : Fn} {k : Nat} {x : Str} (hn : l.most = some 63) (hdf : d.params.defaults = []) (hr : gE k callerA)
    (hY : ∀ (w : World) (h : Heap), YP w h → (K w.params).In h)
    (hF : ∀ (w : World) (mg : Str → Option Value) (fa : Addr) (h : Heap), (K w.params).In h → h.Ns mainGlobals mg → mg d.name = some (.ref fa) →
      ∃ fd : FuncData, (∀ (s : Shared) (u : Value), BindsTo s fd ⟨[u], []⟩ [(x, u)]) ∧ ∀ base : Heap, (K w.params).In base → base.Ns mainGlobals mg → ce l.prog w (K w.params) mg base CX0 k fa fd [x] (spF (K w.params) F 1))
    (law : ∀ ns : List Int, ns.length ≤ 63 → ∃ h, F [.lit (ns.map .int)] [] = .ok (.bl true) h) :
    PySem.W.WalkO q loose XP YP l.row.toRowW d [] (fun f vs => PySem.call f vs) := by
  refine L2.FA (n := 63) (k := k) (x := x) (CX := fun _ => CX0) (sp := fun w => spF (K w.params) F 1) hn (by decide) hdf hr hY hF (fun w H a ns hl hO hS => ?_) fun _ _ _ _ _ z => z
  obtain ⟨h, e⟩ := law ns hl
  have hL : mz (K w.params) H a (ns.map V.int) := by
    rcases hS with (z | ⟨o, z⟩) | z
    · rcases hO a with y | ⟨o, xs, y⟩ <;> (rw [z] at y; cases y)
    · exact .inl ⟨o, z⟩
    · exact .inr z
  have hI : RDs (K w.params) [] H (ns.map D.int) (ns.map V.int) := by
    clear hl hS e hL law
    induction ns with
    | nil => exact RDs.nil
    | cons n ns ih => exact RDs.cons (by simp only [RD]) ih
  refine ⟨[], [], [.lit (ns.map .int)], ⟨rfl, List.nodup_nil, fun n c a h1 => by simp at h1⟩, RDs.cons (by simp only [RD]; exact ⟨a, _, rfl, hL, hI⟩) RDs.nil, rfl, ?_⟩
  rw [e]
  intro v H' ρ' ex rh rd
  simpa only [RD] using rd
end Fm
set_option Elab.async false
set_option linter.all false
set_option maxRecDepth 100000
namespace Fm
open PySem PySem.Spec L2
open PyProof.Rows (Subscript_ tail_any)
def tyS : Ty → String
  | .int => "int" | .bool => "bool" | .tuple => "tuple" | .list => "list" | .str => "str"
theorem eY (t : Ty) : typeOf (.type (tyS t)) = pure (.type "type") := by
  cases t
  · exact F.isi_meta_int
  · exact F.isi_meta_bool
  · exact F.isi_meta_tuple
  · exact F.isi_meta_list
  · exact F.isi_meta_str
theorem FH (t : Ty) : isSubtype (.type "NoneType") (.type (tyS t)) = pure false := by cases t <;> (rw [isSubtype_type]; kernel_rfl)
theorem HS {t : Ty} (h : t ≠ .int) : isSubtype (.type "int") (.type (tyS t)) = pure false := by cases t <;> first | exact absurd rfl h | (rw [isSubtype_type]; kernel_rfl)
theorem FI {t : Ty} (h : t ≠ .int) (h2 : t ≠ .bool) : isSubtype (.type "bool") (.type (tyS t)) = pure false := by cases t <;> first | exact absurd rfl h | exact absurd rfl h2 | (rw [isSubtype_type]; kernel_rfl)
theorem HU {t : Ty} (h : t ≠ .str) : isSubtype (.type "str") (.type (tyS t)) = pure false := by cases t <;> first | exact absurd rfl h | (rw [isSubtype_type]; kernel_rfl)
theorem DT {t : Ty} (h : t ≠ .tuple) : isSubtype (.type "tuple") (.type (tyS t)) = pure false := by cases t <;> first | exact absurd rfl h | (rw [isSubtype_type]; kernel_rfl)
theorem Bc {t : Ty} (h : t ≠ .list) : isSubtype (.type "list") (.type (tyS t)) = pure false := by cases t <;> first | exact absurd rfl h | (rw [isSubtype_type]; kernel_rfl)
theorem FJ (t : Ty) : isSubtype (.type "dict") (.type (tyS t)) = pure false := by cases t <;> (rw [isSubtype_type]; kernel_rfl)
theorem jp (t : Ty) : isSubtype (.type (tyS t)) (.type (tyS t)) = pure true := by cases t <;> (rw [isSubtype_type]; kernel_rfl)
theorem vX : isSubtype (.type "bool") (.type (tyS .int)) = pure true := by rw [isSubtype_type]; kernel_rfl
theorem mB {n : String} {t : Ty} (h : n ≠ tyS t) : (Value.type n == Value.type (tyS t)) = false := by
  rw [beq_eq_false_iff_ne]; intro e; cases e; exact h rfl
theorem yu {a b : Ty} (h : a ≠ b) : (a == b) = false := by cases a <;> cases b <;> first | rfl | exact absurd rfl h
section
variable {X : Cx} {pos p : Pos}
theorem HV {pins : List (Addr × Obj)} {σ : St} {H : Hp} {s : Shared} {ρ : List Addr} {hd : Hd} {d : D} {v : V} {u : Value} {t : Ty} {b : Bool} {Q : Value → Shared → Prop} {E : Value → Shared → Prop} (I : Inv X pins σ H s) (rh : RH X.K ρ H hd) (rd : RD X.K ρ H d v) (r : bK v u) (e : yk hd t d = some b)
    (q : ∀ s', Inv X pins σ H s' → Q (.bool b) s') : wpAny (model X.prog X.w) X.A (call (.builtin "isinstance") [u, .type (tyS t)]) Q E s := by
  have q0 := q s I
  have q1 := q { s with toks := s.toks + 1 } (I.tok _)
  have yes : ∀ {n : String}, s.TypeIs u n → isSubtype (.type n) (.type (tyS t)) = pure true → Q (.bool true) s → wpAny (model X.prog X.w) X.A (call (.builtin "isinstance") [u, .type (tyS t)]) Q E s := fun h1 h2 h3 => call_isinstance (isinstance_true (eY t) h2) ⟨h1, h3⟩
  cases d <;> simp only [RD] at rd <;> simp only [yk] at e
  · subst rd; cases r; cases e
    exact call_isinstance (isinstance_false_none (by cases t <;> exact mB (by decide)) (eY t) (FH t)) q1
  · subst rd; cases r
    by_cases h1 : t = .int
    · subst h1; cases e; exact yes (n := "bool") rfl vX q0
    · by_cases h2 : t = .bool
      · subst h2; cases e; exact yes (n := "bool") rfl (jp .bool) q0
      · rw [yu h1, yu h2] at e; cases e
        exact call_isinstance (isinstance_false_bool (by cases t <;> first | exact absurd rfl h1 | exact absurd rfl h2 | exact mB (by decide)) (eY t) (FI h1 h2)) q1
  · subst rd; obtain ⟨tk, rfl⟩ := r
    by_cases h1 : t = .int
    · subst h1; cases e; exact yes (n := "int") rfl (jp .int) q0
    · rw [yu h1] at e; cases e
      exact call_isinstance (isinstance_false_int (by cases t <;> first | exact absurd rfl h1 | exact mB (by decide)) (eY t) (HS h1)) q1
  · subst rd; obtain ⟨tk, rfl⟩ := r
    by_cases h1 : t = .str
    · subst h1; cases e; exact yes (n := "str") rfl (jp .str) q0
    · rw [yu h1] at e; cases e
      exact call_isinstance (isinstance_false_str (by cases t <;> first | exact absurd rfl h1 | exact mB (by decide)) (eY t) (HU h1)) q1
  · obtain ⟨a, vs, rfl, ha, _⟩ := rd
    cases r
    obtain ⟨its, _, o, ho, hc, _⟩ := ii I.hok ha
    by_cases h1 : t = .tuple
    · subst h1; cases e; exact yes (n := "tuple") ⟨o, ho, hc⟩ (jp .tuple) q0
    · rw [yu h1] at e; cases e
      exact call_isinstance (isinstance_false_tuple (by cases t <;> first | exact absurd rfl h1 | exact mB (by decide)) (eY t) (DT h1)) ⟨⟨o, ho, hc⟩, q1⟩
  · rename_i n
    obtain ⟨a, ha, rfl⟩ := rd
    cases r
    cases c : hd[n]? with
    | none => rw [c] at e; cases e
    | some cell =>
      rw [c] at e
      cases cell with
      | lst l =>
        obtain ⟨vs, hv, _⟩ := rh.cel n _ a c ha
        obtain ⟨z, its, k, _, ho⟩ := I.hok a _ hv
        by_cases h1 : t = .list
        · subst h1; cases e; exact yes (n := "list") ⟨_, ho, rfl⟩ (jp .list) q0
        · simp only [yu h1] at e; cases e
          exact call_isinstance (isinstance_false_list (by cases t <;> first | exact absurd rfl h1 | exact mB (by decide)) (eY t) (Bc h1)) ⟨⟨_, ho, rfl⟩, q1⟩
      | dct l =>
        obtain ⟨vs, hv, _, _⟩ := rh.cel n _ a c ha
        obtain ⟨_, _, _, _, o, _, _, ho, ex, _⟩ := I.hok a _ hv
        cases e
        exact call_isinstance (isinstance_false_dict (by cases t <;> exact mB (by decide)) (eY t) (FJ t)) ⟨⟨o, ho, ex.1⟩, q1⟩
  · obtain ⟨a, vs, rfl, ha, _⟩ := rd
    cases r
    obtain ⟨its, _, pl, _⟩ := I.list ha.sq
    obtain ⟨o, ho, hc, _⟩ := pl.isList
    by_cases h1 : t = .list
    · subst h1; cases e; exact yes (n := "list") ⟨o, ho, hc⟩ (jp .list) q0
    · simp only [yu h1] at e; cases e
      exact call_isinstance (isinstance_false_list (by cases t <;> first | exact absurd rfl h1 | exact mB (by decide)) (eY t) (Bc h1)) ⟨⟨o, ho, hc⟩, q1⟩
  · cases e
def J4 (K : PySem.W.Frag) (t : Ty) : List V → Hp → VK → Prop := fun xs H Q => ∃ ρ hd d v b, xs = [v, .ty (tyS t)] ∧ RH K ρ H hd ∧ RD K ρ H d v ∧ yk hd t d = some b ∧ Q (.bl b) H
theorem DU (t : Ty) : gp X (.builtin "isinstance") (J4 X.K t) := by
  intro pins s σ H xs us Q I r h
  obtain ⟨ρ, hd, d, v, b, rfl, rh, rd, e, q⟩ := h
  obtain ⟨u, u2, rfl, ru, ru2⟩ := aP.two r
  cases (show u2 = Value.type (tyS t) from ru2)
  exact HV I rh rd ru e fun s' I' => ⟨.bl b, H, I', rfl, q⟩
theorem gv {t : Ty} {a : Expr} {fa : EF} {p2 : Pos} {n : Str} (hg : Gl X "isinstance") (hm : X.mg "isinstance" = none) (hg2 : Gl X n) (hm2 : X.mg n = none) (hv : bootBuiltins n = some (.type (tyS t))) (ha : ME X a fa)
    (hs : starEach [a, .Name n p2] X.env = (false, eval a X.env) :: starEach [.Name n p2] X.env := by rfl) (hs2 : starEach [.Name n p2] X.env = (false, eval (.Name n p2) X.env) :: starEach [] X.env := by rfl) (hn : n ≠ "__name__" := by decide) (hd : (n == ("__debug__" : Str)) = false := by decide) :
    ME X (.Call (.Name "isinstance" p) [a, .Name n p2] [] pos) (gr t fa) := by
  refine PE.imp (gS (DU t) hg hm (by decide +kernel) (bG ha (bG (AX (v := .ty (tyS t)) hg2 hm2 hv rfl hn hd) cD hs2) hs) (he := hs)) fun σ H Q ⟨ρ, σd, hd, rs, pp⟩ => ⟨ρ, σd, hd, rs, (br.bind (R := rD X.K) pp).imp fun v H1 ⟨ρ1, d, hd1, e1, rs1, rv, p1⟩ => ?_⟩
  cases c : yk hd1 t d with
  | none => simp only [c] at p1; exact p1.elim
  | some b => simp only [c] at p1; exact ⟨ρ1, hd1, d, v, b, rfl, rs1.hp, rv, c, p1.here rs1 (by simp only [rD, RD])⟩
theorem bH : OpR X (binaryOp .Add) (fun x y H Q => rI0 (fun i j => .int (i + j)) x y H Q ∨ vN X.K x y H Q) := Hq.or A2
theorem b7 {K : PySem.W.Frag} : Og K cE (fun x y H Q => rI0 (fun i j => .int (i + j)) x y H Q ∨ vN K x y H Q) := by
  intro ρ H σd hd σ d k v w Q rs rv rw' pp
  cases d <;> try exact pp.elim
  · cases k <;> try exact pp.elim
    simp only [RD] at rv rw'
    exact .inl ⟨_, _, rv, rw', pp.here rs (by simp only [rD, RD])⟩
  · rename_i l
    cases l with
    | nil => exact pp.elim
    | cons x xs =>
      cases k <;> try exact pp.elim
      rename_i ys
      simp only [cE] at pp
      split at pp
      · rename_i hz
        simp only [RD] at rv rw'
        obtain ⟨a, vs, rfl, ha, rvs⟩ := rv
        obtain ⟨b, ws, rfl, hb, rws⟩ := rw'
        refine .inr ⟨a, b, vs, ws, rfl, rfl, SqT.of ha, SqT.of hb, ?_, ?_, fun z => ?_, fun _ q hq => ?_⟩
        · intro z; subst z; have := rvs.length; simp at this
        · rw [← rvs.length, ← rws.length]; exact ku hz
        · subst z
          have hy : ys = [] := by have := rws.length; simpa using this
          subst hy
          exact pp.here rs (by simp only [rD, RD]; exact ⟨a, vs, rfl, ha, by simpa using rvs⟩)
        · have sm := bT (o := HO.tup (vs ++ ws)) hq
          exact pp.at (Ext.same sm) (rs.same sm) (by simp only [rD, RD]; exact ⟨q, _, rfl, bh, (RDs.append rvs rws).mono (Kp.same sm)⟩)
      · exact pp.elim
theorem jq {a : Expr} {la : LF} (hg : Gl X "list") (hm : X.mg "list" = none) (ha : MQ X a la) (hs : starEach [a] X.env = (false, eval a X.env) :: starEach [] X.env := by rfl) : MF X (.Call (.Name "list" p) [a] [] pos) la := by
  refine PE.imp (rS tL hg hm (by decide +kernel) (bG ha cD hs) (he := hs)) fun σ H Q ⟨ρ, σd, hd, rs, pp⟩ => ⟨ρ, σd, hd, rs, ?_⟩
  cases e : la σd hd with
  | exc x h' => rw [e] at pp; exact pp
  | bad => rw [e] at pp; exact pp
  | ok l hd1 =>
    rw [e] at pp
    intro v H1 ρ1 e1 rs1 ⟨q, vs, hv, sq, rvs⟩
    subst hv
    exact ⟨q, vs, rfl, sq.imp id SqT.of, pp.mk e1 rs1 rvs⟩
def MO (X : Cx) (e : Option Expr) (f : OF) : Prop := PO X e (jA X.K rO f)
theorem DV : MO X none pNo := fun pins s σ H Q I ⟨ρ, σd, hd, rs, pp⟩ => Fv pins s σ H Q I (pp.here rs rfl)
theorem DW {e : Expr} {f : EF} (h : ME X e f) : MO X (some e) (pAt f) := fun pins s σ H Q I ⟨ρ, σd, hd, rs, pp⟩ => Fw h pins s σ H Q I ⟨ρ, σd, hd, rs, (br.bind (R := rD X.K) pp).imp fun v H1 ⟨ρ1, d, hd1, e1, rs1, rv, p1⟩ => by
  cases d <;> try exact p1.elim
  simp only [rD, RD] at rv
  exact ⟨_, rv, p1.here rs1 rfl⟩⟩
theorem Bd {K : PySem.W.Frag} {ρ : List Addr} {H : Hp} {l : List D} {vs : List V} {lo hi : Option Int} (r : RDs K ρ H l vs) : RDs K ρ H (cut l lo hi) (nJ vs lo hi) := by
  have e : ∀ (n d : Nat) (o : Option Int), Fm.sIx n d o = HT.sIx n d o := fun n d o => by cases o <;> rfl
  unfold cut nJ
  rw [r.length, e, e]
  exact (r.drop _).take _
theorem HW {a : Expr} {fa : EF} {p2 p3 p4 : Pos} {j : Nat} (ha : ME X a fa) : MF X (.Subscript a (.Slice none none (some (.UnaryOp .USub (.Constant (.int 1) j p4) p3)) p2) pos) (BY fa) := by
  intro pins s σ H Q I ⟨ρ, σd, hd, rs, pp⟩
  unfold BY at pp
  cases e : fa σd hd with
  | exc x h' => rw [e] at pp; exact pp.elim
  | bad => rw [e] at pp; exact pp.elim
  | ok d hd1 =>
    rw [e] at pp
    simp only [aQ] at pp
    refine Subscript_ (thn (ha pins s σ H (fun v H1 => ∃ ρ1, Ext ρ H ρ1 H1 ∧ RS X.K ρ1 H1 σd hd1 σ ∧ RD X.K ρ1 H1 d v) I ⟨ρ, σd, hd, rs, by
      rw [e]
      exact fun v H1 ρ1 ex rs' rd => ⟨ρ1, ex, rs', rd⟩⟩) fun v s1 ⟨x, H1, I1, r1, ρ1, ex1, rs1, rd1⟩ => ?_)
    cases c : bP hd1 d with
    | none => rw [c] at pp; exact pp.elim
    | some l =>
      rw [c] at pp
      obtain ⟨q, vs, rfl, sq, rvs⟩ := gu rs1.hp rd1 c
      cases r1
      refine wpAny_Slice ?_
      rw [evalPart_none]
      refine wpAny_pure (wpAny_pure ?_)
      rw [evalPart_some]
      refine thn (GM Dw x8 pins s1 σ H1 (fun v' H' => v' = .int (-1) ∧ H' = H1) I1 ⟨1, rfl, rfl, rfl⟩) fun u3 s3 ⟨x3, H3, I3, r3, e3, eH⟩ => ?_
      subst e3 eH
      obtain ⟨t3, rfl⟩ := r3
      have I4 : Inv X pins σ H3 { s3 with heap := s3.heap.push { cls := .type "slice", data := .fields #[.none, .none, .int (-1) t3] } } := I3.kept (t' := s3.toks) fun b ob q => Heap.get?_push_of_some _ q
      obtain ⟨its, r, ht, hz⟩ := I4.list sq
      refine tail_any (ops := [.ref q, .ref s3.heap.objs.size]) ht.isList.typeIs slot_list_getitem.lookup (wpAny_getItem_list_slice ht.isList (Heap.IsSliceOf.new ..) .none .none (.int _ _) (by decide) ?_ (by rw [List.size_toArray, ← r.length]; exact hz)) (by with_unfolding_all rfl)
      rw [PySem.W.krv_pick]
      refine ⟨.ref (s3.heap.push { cls := .type "slice", data := .fields #[.none, .none, .int (-1) t3] }).objs.size, _, I4.laid (t' := s3.toks) (o := .lst vs.reverse) (fun b ob q => Heap.get?_push_of_some _ q) (Nat.le_refl _) ⟨by rw [List.length_reverse]; exact hz, its.reverse, 0, r.reverse, Heap.get?_push_size _ rfl⟩, rfl, pp.mk ex1 rs1 rvs.reverse _ (I4.hok.fresh (Nat.le_refl _))⟩
theorem nT {a : Expr} {fa : EF} {lo hi : Option Expr} {fl fh : OF} {p2 : Pos} (ha : ME X a fa) (hl : MO X lo fl) (hh : MO X hi fh) : ME X (.Subscript a (.Slice lo hi none p2) pos) (gG fa fl fh) := by
  refine PE.imp (DC (SlR.or Fx Hx) ha hl hh) fun σ H Q ⟨ρ, σd, hd, rs, pp⟩ => ?_
  unfold gG at pp
  refine ⟨ρ, σd, hd, rs, (br.bind (R := rD X.K) pp).imp fun v H1 ⟨ρ1, d, hd1, e1, rs1, rv, p1⟩ => ?_⟩
  refine ⟨ρ1, σd, hd1, rs1, (br.bind (R := rO) p1).imp fun o1 H2 ⟨ρ2, o1', hd2, e2, rs2, q2, p2⟩ => ?_⟩
  cases q2
  refine ⟨ρ2, σd, hd2, rs2, (br.bind (R := rO) p2).imp fun o2 H3 ⟨ρ3, o2', hd3, e3, rs3, q3, p3⟩ => ?_⟩
  cases q3
  have rv3 := (rv.mono (rs1.hp.kp e2)).mono (rs2.hp.kp e3)
  have list : ∀ l, bP hd3 d = some l → br X.K (rD X.K) ρ3 H3 σd σ (.ok (.ref hd3.length) (hd3 ++ [.lst (cut l o1 o2)])) Q → Jk X.K v o1 o2 H3 Q := fun l c p => by
    obtain ⟨q, vs, hv, sq, rvs⟩ := gu rs3.hp rv3 c
    refine ⟨q, vs, hv, sq, fun q' hq => ?_⟩
    have sm := bT (o := HO.lst (nJ vs o1 o2)) hq
    have nq := rs3.hp.free hq
    have rh := (rs3.hp.same sm).alloc bh nq ((Bd rvs).mono (Kp.same sm))
    have ex : Ext ρ3 H3 (ρ3 ++ [q']) (upd H3 q' (.lst (nJ vs o1 o2))) := Ext.alloc hq
    refine p.at ex (rs3.ext ex rh) ?_
    simp only [rD, RD]
    exact ⟨q', by rw [← rs3.hp.len]; simp, rfl⟩
  cases d with
  | tup l =>
    simp only at p3
    split at p3
    · exact p3.elim
    · rename_i hw
      simp only [RD] at rv3
      obtain ⟨q, vs, rfl, hq, rvs⟩ := rv3
      have e : ∀ (n d : Nat) (o : Option Int), Fm.sIx n d o = HT.sIx n d o := fun n d o => by cases o <;> rfl
      refine .inr ⟨q, vs, rfl, SqT.of hq, by rw [← rvs.length, ← e, ← e]; exact hw, fun q' hq' => ?_⟩
      have sm := bT (o := HO.tup (nJ vs o1 o2)) hq'
      exact p3.at (Ext.same sm) (rs3.same sm) (by simp only [rD, RD]; exact ⟨q', _, rfl, bh, (Bd rvs).mono (Kp.same sm)⟩)
  | ref n =>
    simp only at p3
    cases c : bP hd3 (.ref n) with
    | none => rw [c] at p3; exact p3.elim
    | some l => rw [c] at p3; exact .inl (list l c p3)
  | lit l' =>
    simp only at p3
    cases c : bP hd3 (.lit l') with
    | none => rw [c] at p3; exact p3.elim
    | some l => rw [c] at p3; exact .inl (list l c p3)
  | _ => exact p3.elim
theorem iX {o e : Expr} {fo fe : EF} {apos cpos : Pos} (ho : ME X o fo) (he : ME X e fe) (hbase : attributeBase o "append" X.env (eval o X.env) = eval o X.env := by rfl)
    (hfew : ((backTo cpos (starEach [e] X.env)).all (fun x => !x.1) && (backToKw cpos (keywordEach [] X.env)).all (fun x => x.1.isSome)
      && decide (([e] : List Expr).length + ([] : List Keyword).length + (if ([] : List Keyword).isEmpty then 0 else 1) < 30)) = true := by rfl)
    (hline : (apos.endLine == cpos.line) = true := by rfl) (hs : starEach [e] X.env = (false, eval e X.env) :: starEach [] X.env := by rfl) :
    ME X (.Call (.Attribute o "append" apos) [e] [] cpos) (m5 fo fe) := by
  refine PE.imp (A5 PySem.F.plainAttrs_list PySem.F.slot_list_append PySem.F.type_list_append rV ho (bG he cD hs) hbase hfew hline hs) fun σ H Q ⟨ρ, σd, hd, rs, pp⟩ => ⟨ρ, σd, hd, rs, ?_⟩
  unfold m5 at pp
  refine (br.bind (R := rD X.K) pp).imp fun v H1 ⟨ρ1, d, hd1, e1, rs1, rv, p1⟩ => ?_
  cases d <;> try exact p1.elim
  rename_i n
  simp only [rD, RD] at rv
  obtain ⟨a, ha, rfl⟩ := rv
  simp only at p1
  cases c1 : hd1[n]? with
  | none => rw [c1] at p1; exact p1.elim
  | some cell1 =>
    rw [c1] at p1
    cases cell1 with
    | dct l => exact p1.elim
    | lst l1 =>
      obtain ⟨vs, hv, _⟩ := rs1.hp.cel n _ a c1 ha
      simp only at p1
      refine ⟨.inl ⟨rfl, vs, SqL.of hv⟩, ρ1, σd, hd1, rs1, (br.bind (R := rD X.K) p1).imp fun w H2 ⟨ρ2, k, hd2, e2, rs2, rw', p2⟩ => ?_⟩
      simp only [Jm] at p2
      cases c : hd2[n]? with
      | none => rw [c] at p2; exact p2.elim
      | some cell =>
        rw [c] at p2
        cases cell with
        | dct l => exact p2.elim
        | lst l =>
          simp only at p2
          split at p2
          · rename_i hz
            have ha2 := e2.get ha
            obtain ⟨vs2, hv2, rvs2⟩ := rs2.hp.cel n _ a c ha2
            refine ⟨a, vs2, w, rfl, rfl, hv2, ?_, ?_⟩
            · rw [← rvs2.length]; exact Nat.lt_of_lt_of_le hz (by rw [sizeLine_eq]; decide)
            · have hn : n < hd2.length := (List.getElem?_eq_some_iff.mp c).1
              have rh := rs2.hp.write ha2 hn (RDs.append rvs2 (RDs.cons rw' RDs.nil))
              have ex : Ext ρ2 H2 ρ2 (upd H2 a (.lst (vs2 ++ [w]))) := Ext.write (List.mem_of_getElem? ha2)
              exact p2.at ex (rs2.ext ex rh) (by simp only [rD, RD])
          · exact p2.elim
end
end Fm
set_option Elab.async false
set_option linter.all false
set_option maxRecDepth 100000
namespace Fm
open PySem PySem.Spec L2
open AutoSeq1 (wpAny_loadPart')
open PyProof.Rows (Call_)
theorem vY {a b : String} (h : Value.type a = Value.type b) (n : a ≠ b) : False := by injection h with h; exact n h
theorem iY (l : Addr) (items : Array Value) (n : Nat) (dct : Option Addr) (sl : Array (Option Value)) :
    Meets (Builtin.«enumerate.__new__» ⟨[.type "enumerate", .ref l], []⟩) (fun _ R s => s.heap.get? l = some { cls := .type "tuple", dict := dct, data := .seq items n, slots := sl } ∧
      R (.ok (.ret (.ref (s.heap.push { cls := .type "tuple_iterator", data := .fields #[.ref l, .int 0 0] }).objs.size)))
        { s with heap := (s.heap.push { cls := .type "tuple_iterator", data := .fields #[.ref l, .int 0 0] }).push { cls := .type "enumerate", data := .fields #[.none, .bool false, .ref s.heap.objs.size, rawInt 0, .none, .none] } }) :=
  .of_wp fun prog w A R s h => by
    obtain ⟨hp, g, d, tk, os⟩ := s; obtain ⟨hl, h⟩ := h
    have hsub := sub_enumerate
    have hL : Heap.IsTuple (Shared.heap ⟨hp, g, d, tk, os⟩) l items := ⟨_, hl, rfl, n, rfl⟩
    wp_walk using wpAny_loadPart' hl
    refine wpAny_stack_any fun st => wpAny_pure ?_
    split
    · rename_i c _ _ _ _ _
      cases (c == Value.type "enumerate")
      · wp_walk using wpAny_loadPart' hl, wpAny_pyIter_tuple hL
        exact ⟨_, rfl, h⟩
      · wp_walk using wpAny_loadPart' hl, wpAny_pyIter_tuple hL
        exact ⟨_, rfl, h⟩
    · wp_walk using wpAny_loadPart' hl, wpAny_pyIter_tuple hL
      exact ⟨_, rfl, h⟩
section
variable {prog : Program} {w : World} {A : Around} {E : Value → Shared → Prop} {s : Shared}
theorem iZ {l : Addr} {items : Array Value} {Q : Value → Shared → Prop} (hL : s.heap.IsTuple l items)
    (h : ∀ h', IsEnum h' (s.heap.objs.size + 1) s.heap.objs.size 0 .none → h'.IsTupleIter s.heap.objs.size l 0 → h'.objs.size = s.heap.objs.size + 2 →
      (∀ b o, s.heap.get? b = some o → h'.get? b = some o) → Q (.ref (s.heap.objs.size + 1)) { s with heap := h' }) :
    wpAny (model prog w) A (call (.type "enumerate") [.ref l]) Q E s := by
  obtain ⟨⟨c, dct, dt, sl⟩, hl, hc, n, hd⟩ := hL
  replace hc : c = .type "tuple" := hc
  replace hd : dt = .seq items n := hd
  subst hc hd
  refine callType_new F.called_enumerate (by decide) (F.typeCall_enumerate_1 _) (F.newCall_enumerate_1 _) (fun obj => F.args_object_init_2 obj _) F.entry_enumerate_new
    (iY l items n dct sl) ⟨hl, ?_⟩
  have hz : (s.heap.push { cls := .type "tuple_iterator", data := .fields #[.ref l, .int 0 0] }).objs.size = s.heap.objs.size + 1 := Heap.size_push ..
  show _ ∧ _
  rw [hz]
  have he : IsEnum ((s.heap.push { cls := .type "tuple_iterator", data := .fields #[.ref l, .int 0 0] }).push
      { cls := .type "enumerate", data := .fields #[.none, .bool false, .ref s.heap.objs.size, rawInt 0, .none, .none] }) (s.heap.objs.size + 1) s.heap.objs.size 0 .none := by
    have := Heap.get?_push_size (s.heap.push { cls := .type "tuple_iterator", data := .fields #[.ref l, .int 0 0] })
      (o := { cls := .type "enumerate", data := .fields #[.none, .bool false, .ref s.heap.objs.size, rawInt 0, .none, .none] }) rfl
    rw [hz] at this; exact this
  refine ⟨⟨_, he, rfl⟩, h _ he ⟨_, Heap.get?_push_of_some _ (Heap.get?_push_size _ rfl), rfl, rfl⟩ (by rw [Heap.size_push, hz]) fun b o x => Heap.get?_push_of_some _ (Heap.get?_push_of_some _ x)⟩
theorem ky {it l : Addr} {i : Nat} {items : Array Value} {x : Value} {Q : Value → Shared → Prop} (hit : s.heap.IsTupleIter it l i)
    (hl : s.heap.IsTuple l items) (hx : items[i]? = some x)
    (hQ : ∀ h', h'.IsTupleIter it l (i + 1) → Heap.SameBut it s.heap h' → Q x { s with heap := h' }) :
    wpAny (model prog w) A (Builtin.SmallTypes.nextOf (.ref it)) Q E s := by
  obtain ⟨o, ho, hc, hd⟩ := id hit
  obtain ⟨ol, hol, _, nl, hdl⟩ := hl
  unfold Builtin.SmallTypes.nextOf
  refine wpAny_bind (wpAny_callSpecial?_slot (name := Str.ofString "__next__") hit.typeIs F.slot_tuple_iterator_next
    (wpAny_call_entry F.slot_tuple_iterator_next hit.typeIs F.entry_tuple_iterator_next ?_ (F.args_tuple_iterator_next_1 _)))
  show wpAny _ _ (field (.ref it) 0 >>= _) _ _ s
  refine wpAny_bind (wpAny_field ho hd (x := .ref l) rfl ?_)
  show wpAny _ _ (if (Value.ref l == Value.none) = true then _ else _) _ _ s
  rw [if_neg (show ¬ ((Value.ref l == Value.none) = true) from Bool.false_ne_true)]
  show wpAny _ _ (field (.ref it) 1 >>= _) _ _ s
  refine wpAny_bind (wpAny_field ho hd (x := .int i 0) rfl ?_)
  show wpAny _ _ (seqItems? (.ref l) >>= _) _ _ s
  refine wpAny_bind (wpAny_seqItems hol hdl ?_)
  simp only [Int.toNat_natCast, hx]
  refine wpAny_bind (wpAny_setField ho hd (by simp) (wpAny_pure ⟨x, rfl, wpAny_pure (hQ _ ?_ (Heap.SameBut.update ..))⟩))
  exact ⟨_, Heap.get?_update_self _ ho (Obj.isFreed_of_fields (Obj.data_mapFields hd _)), (Obj.cls_mapFields ..).trans hc, by
    rw [Obj.data_mapFields hd]; simp [rawInt]⟩
theorem lB {it l : Addr} {i : Nat} {items : Array Value} {Q : Value → Shared → Prop} (hh : A.handled = none)
    (hit : s.heap.IsTupleIter it l i) (hl : s.heap.IsTuple l items) (hx : items[i]? = none)
    (hE : ∀ h' e, Heap.ExtBut it s.heap h' → (∃ o, h'.get? e = some o ∧ o.cls = .type "StopIteration") → E (.ref e) { s with heap := h' }) :
    wpAny (model prog w) A (Builtin.SmallTypes.nextOf (.ref it)) Q E s := by
  obtain ⟨o, ho, hc, hd⟩ := id hit
  obtain ⟨ol, hol, _, nl, hdl⟩ := hl
  unfold Builtin.SmallTypes.nextOf
  refine wpAny_bind (wpAny_callSpecial?_slot (name := Str.ofString "__next__") hit.typeIs F.slot_tuple_iterator_next
    (wpAny_call_entry F.slot_tuple_iterator_next hit.typeIs F.entry_tuple_iterator_next ?_ (F.args_tuple_iterator_next_1 _)))
  show wpAny _ _ (field (.ref it) 0 >>= _) _ _ s
  refine wpAny_bind (wpAny_field ho hd (x := .ref l) rfl ?_)
  show wpAny _ _ (if (Value.ref l == Value.none) = true then _ else _) _ _ s
  rw [if_neg (show ¬ ((Value.ref l == Value.none) = true) from Bool.false_ne_true)]
  show wpAny _ _ (field (.ref it) 1 >>= _) _ _ s
  refine wpAny_bind (wpAny_field ho hd (x := .int i 0) rfl ?_)
  show wpAny _ _ (seqItems? (.ref l) >>= _) _ _ s
  refine wpAny_bind (wpAny_seqItems hol hdl ?_)
  simp only [Int.toNat_natCast, hx]
  refine wpAny_bind (wpAny_rule (wpAny_bind (wpAny_setField ho hd (by simp) ?_)))
  show wpAny _ _ (newExc (.type "StopIteration") [] >>= _) _ _ _
  refine wpAny_bind ?_
  simp only [newExc, newTuple]
  refine wpAny_bind (wpAny_newObj_type ?_ (by size_fits))
  refine wpAny_bind (m := firstArgMember _ _) (wpAny_of_eq (a := Value.none) (by first | rfl | (simp only [firstArgMember]; rfl)) ?_)
  refine wpAny_newObj_type ?_ (by size_fits)
  simp only [raiseNew]
  refine wpAny_bind (wpAny_handled ?_)
  first | rw [show A.in1.handled = none from hh] | rw [hh]
  refine wpAny_bind (wpAny_pure (wpAny_throw ?_))
  exact hE _ _ (((Heap.SameBut.update ..).extBut.push _).push _) ⟨_, Heap.get?_push_size _ rfl, rfl⟩
end
theorem mC {prog : Program} {w : World} {A : Around} (hh : A.handled = none) (it l : Addr) (hne : l ≠ it) (items : Array Value) :
    Draws prog w A it [it, l] items.size (fun i v => items[i]? = some v) (fun i h => h.IsTupleIter it l i ∧ h.IsTuple l items) where
  live := fun _ _ st => let ⟨o, ho, _⟩ := st.1; ⟨o, ho⟩
  frame := fun _ _ _ st hk => ⟨st.1.at fun o e => hk it (by simp) o e, let ⟨o, ho, r⟩ := st.2; ⟨o, hk l (by simp) o ho, r⟩⟩
  item := fun i s Q E hi st hQ => by
    have hx : items[i]? = some items[i] := by simp [hi]
    refine ky st.1 st.2 hx fun h' hit' hs' => ?_
    refine hQ _ h' s.toks hx ⟨hit', ?_⟩ hs'
    obtain ⟨o, ho, r⟩ := st.2
    exact ⟨o, (hs'.2 l hne).trans ho, r⟩
  done := fun s Q E st hE => lB hh st.1 st.2 (by simp) hE
def Ite (K : PySem.W.Frag) (a : Addr) : It :=
  ⟨fun i H => ∃ xs x, SqT K H a xs ∧ xs[i]? = some x, fun i H x H' => ∃ q v, x = .ref q ∧ H q = none ∧ H' = upd H q (.tup [.int (i : Nat), v]) ∧ ∀ xs, SqT K H a xs → xs[i]? = some v, fun i H => ∃ xs, SqT K H a xs ∧ xs.length = i⟩
theorem B3 {P : Program} {w : World} {K : PySem.W.Frag} {elts : List Expr} {k : Nat} {pos : Pos} (e it a : Addr) : ya P w K (.Tuple elts k pos) (Ite K a) [e, it] e (fun i h => (∃ old, IsEnum h e it (i : Nat) old) ∧ h.IsTupleIter it a i) where
  mem := by simp
  obj := fun i h st b hb => by
    obtain ⟨⟨old, he⟩, o, ho, hc, hd⟩ := st
    rcases List.mem_cons.mp hb with rfl | hb
    · exact ⟨_, he, fun v z => by
        have z' : Data.fields _ = Data.cell v := z
        cases z'⟩
    · have : b = it := by simpa using hb
      subst this
      exact ⟨o, ho, fun v z => by rw [hd] at z; cases z⟩
  keep := fun i h h' st kk => by
    obtain ⟨⟨old, he⟩, st⟩ := st
    exact ⟨⟨old, kk e (by simp) _ he⟩, st.at fun o x => kk it (by simp) o x⟩
  item := by
    intro X hP hw hK hc i pins s σ H E I hf st hg
    subst hP hw hK
    obtain ⟨⟨old, he⟩, hit⟩ := st
    obtain ⟨xs, x, hq, hx⟩ := hg
    obtain ⟨its, rv, p, hz⟩ := I.tuple hq
    have ht : s.heap.IsTuple a its.toArray := p
    obtain ⟨oi, hoi, hci, hdi⟩ := id hit
    obtain ⟨oa, hoa, hca, na, hda⟩ := id ht
    have hei : e ≠ it := fun z => by
      subst z
      have he' : s.heap.get? e = _ := he
      rw [hoi] at he'; cases he'; exact vY hci (by decide)
    have hea : e ≠ a := fun z => by
      subst z
      have he' : s.heap.get? e = _ := he
      rw [hoa] at he'; cases he'; exact vY hca (by decide)
    have hai : a ≠ it := fun z => by
      subst z
      rw [hoi] at hoa; cases hoa; rw [hci] at hca; exact vY hca (by decide)
    obtain ⟨e0, e1, e2, e3, e4, e5⟩ := hf e (by simp)
    obtain ⟨f0, f1, f2, f3, f4, f5⟩ := hf it (by simp)
    have hlt : i < its.toArray.size := by
      have := (List.getElem?_eq_some_iff.mp hx).1
      have hl := rv.length
      simp; omega
    refine wpAny_pyNext_enum_itemD (mC (prog := X.prog) (w := X.w) (A := X.A.in1) (I.ok.hd hc) it a hai its.toArray) he ⟨hit, ht⟩ hlt hei (by simp; exact ⟨hei, hea⟩) fun y h' tk hy heo hst' htup hsz hk => ?_
    refine ⟨_, rfl, wpAny_letOwnedTupleGo_enum heo fun h2 he2 hs2 => ?_⟩
    replace hs2 : Heap.SameBut e h' h2 := hs2
    obtain ⟨u, hu, ru⟩ := rv.get hx
    have hyu : y = u := by
      have : its.toArray[i]? = some u := by simpa using hu
      rw [hy] at this; exact Option.some.inj this
    subst hyu
    have elt : e < s.heap.objs.size := Heap.lt_size he
    have ilt : it < s.heap.objs.size := Heap.lt_size hoi
    have hN : H s.heap.objs.size = none := I.hok.fresh (Nat.le_refl _)
    have keep : ∀ b o, b ≠ e → b ≠ it → s.heap.get? b = some o → h2.get? b = some o := fun b o b1 b2 q => (hs2.2 b b1).trans (hk b o b1 b2 q)
    have htup2 : h2.get? s.heap.objs.size = some { cls := .type "tuple", data := .seq #[.int i tk, y] } := (hs2.2 _ (Nat.ne_of_gt elt)).trans htup
    have nch : ∀ b, b ∉ ([e, it] : List Addr) → b ≠ e ∧ b ≠ it := fun b hb => by simpa using hb
    refine ⟨.ref s.heap.objs.size, upd H s.heap.objs.size (.tup [.int (i : Nat), x]), ?_, rfl, ⟨_, x, rfl, hN, rfl, fun ys hys => by rw [I.tuple_inj hys hq]; exact hx⟩, ⟨⟨_, by simpa using he2⟩, hst'.1.extBut hs2.extBut (Ne.symm hei)⟩, fun b hb => ?_⟩
    · suffices I2 : L2.Inv X pins σ (upd H s.heap.objs.size (.tup [.int (i : Nat), x])) { s with heap := h2, gens := s.gens, drawn := s.drawn, toks := tk + 1 } from I2
      refine I.step (g' := s.gens) (d' := s.drawn) (t' := tk + 1) (ch := [e, it]) (fun b hb => ?_) (fun b o _ _ hb q _ => keep b o (nch b hb).1 (nch b hb).2 q) (fun b o _ _ hb q _ => ⟨o.slots, keep b o (nch b hb).1 (nch b hb).2 q⟩) (fun b o _ q n => ?_) (fun b o hb q => ⟨o, keep b o (nch b hb).1 (nch b hb).2 q⟩)
        (fun b ys q => ?_) (fun b o u q => ?_) (fun b ps q => ⟨#[], ?_⟩) (fun m hm => ?_) (fun b u q => ?_) I.bare
      · rcases List.mem_cons.mp hb with rfl | hb
        · exact ⟨e3, e1, e4, e5⟩
        · have : b = it := by simpa using hb
          subst this
          exact ⟨f3, f1, f4, f5⟩
      · rw [aD (Nat.ne_of_lt (Heap.lt_size q))]; exact n
      · rw [aD (aG q hN)]; exact q
      · rw [aD (aG q hN)]; exact q
      · rw [aD (aG q hN), q]; simp
      · obtain ⟨o, es, ep, ho, r⟩ := hm
        exact ⟨o, es, ep, keep _ o (Ne.symm e1) (Ne.symm f1) ho, r⟩
      · by_cases hb : b = s.heap.objs.size
        · subst hb
          rw [bh] at q
          cases q
          exact ⟨by show 2 ≤ sizeLine; rw [sizeLine_eq]; decide, [.int i tk, y], .cons ⟨tk, rfl⟩ (.cons ru .nil), _, htup2, rfl, _, rfl⟩
        · rw [aD hb] at q
          have ne1 : ∀ c v, H c = some v → c ≠ e := fun c v z w => by rw [w, e0] at z; cases z
          have ne2 : ∀ c v, H c = some v → c ≠ it := fun c v z w => by rw [w, f0] at z; cases z
          refine (I.hok b u q).stay (fun c v hc' z => ?_) (fun c z => by rw [aD (aG z hN)]; exact z) fun c ys z => by rw [aD (aG z hN)]; exact z
          rcases hc' with w | w
          · subst w; exact keep c v (ne1 c _ q) (ne2 c _ q) z
          · exact keep c v (ne1 c _ w) (ne2 c _ w) z
    · have : b ≠ s.heap.objs.size := by
        rcases List.mem_cons.mp hb with rfl | hb
        · exact Nat.ne_of_lt elt
        · have : b = it := by simpa using hb
          subst this
          exact Nat.ne_of_lt ilt
      rw [aD this]
      exact (hf b hb).1
  done := by
    intro X hP hw hK hc i pins s σ H E I hf st hg
    subst hP hw hK
    obtain ⟨⟨old, he⟩, hit⟩ := st
    obtain ⟨xs, hq, hx⟩ := hg
    obtain ⟨its, rv, p, hz⟩ := I.tuple hq
    have ht : s.heap.IsTuple a its.toArray := p
    obtain ⟨oi, hoi, hci, hdi⟩ := id hit
    obtain ⟨oa, hoa, hca, na, hda⟩ := id ht
    have hai : a ≠ it := fun z => by
      subst z
      rw [hoi] at hoa; cases hoa; rw [hci] at hca; exact vY hca (by decide)
    obtain ⟨f0, f1, f2, f3, f4, f5⟩ := hf it (by simp)
    have hsz : its.toArray.size = i := by have := rv.length; simp; omega
    refine wpAny_pyNext_enum_endD (mC (prog := X.prog) (w := X.w) (A := X.A.in1) (I.ok.hd hc) it a hai its.toArray) he ⟨by rw [hsz]; exact hit, ht⟩ fun h' hx' => ⟨rfl, I.turned (t' := s.toks) (fun b o hb e => hx' b o hb e) f0 f1 f3 f4 f5⟩
  self := fun _ _ _ _ _ st h => by
    obtain ⟨⟨old, he⟩, _⟩ := st
    exact wpAny_pyIter_enum he h
section
variable {X : Cx} {pos p tp : Pos} {elts : List Expr} {tk : Nat}
def iEn (K : PySem.W.Frag) (ta : TE) : TI := fun σ H R => ta σ H fun x H1 => ∃ a xs, x = .ref a ∧ SqT K H1 a xs ∧ (xs.length ≤ sizeLine → R (Ite K a) H1)
theorem FK {a : Expr} {ta : TE} (hg : Gl X "enumerate") (hm : X.mg "enumerate" = none) (ha : PE X a ta) (hs : starEach [a] X.env = [(false, eval a X.env)] := by rfl) : PI X (.Tuple elts tk tp) (.Call (.Name "enumerate" p) [a] [] pos) (iEn X.K ta) := by
  intro pins s σ H R I h
  have hpa := bG ha cD hs
  refine Call_ (iT I hg hm PyProof.Rows.boot_enumerate (PyProof.Rows.callWith_type1 (thn (hpa pos pins s σ H (fun vs H1 => ∃ a xs, vs = [.ref a] ∧ SqT X.K H1 a xs ∧ (xs.length ≤ sizeLine → R (Ite X.K a) H1)) I ?_) fun us s1 ⟨vs, H1, I1, r1, q1⟩ => ?_) hs rfl))
  · show ta σ H fun x H1 => _
    have key : ∀ (x : V) (H1 : Hp), (∃ a xs, x = .ref a ∧ SqT X.K H1 a xs ∧ (xs.length ≤ sizeLine → R (Ite X.K a) H1)) = (∃ a xs, [x] = [.ref a] ∧ SqT X.K H1 a xs ∧ (xs.length ≤ sizeLine → R (Ite X.K a) H1)) := fun x H1 => by simp
    have h' : ta σ H fun x H1 => ∃ a xs, x = .ref a ∧ SqT X.K H1 a xs ∧ (xs.length ≤ sizeLine → R (Ite X.K a) H1) := h
    simp only [key] at h'
    exact h'
  · obtain ⟨a, xs, e, hq, q⟩ := q1
    subst e
    obtain ⟨u, rfl, ru⟩ := aP.one r1
    cases (show u = Value.ref a from ru)
    obtain ⟨its, rv, pt, hz⟩ := I1.tuple hq
    refine iZ (show s1.heap.IsTuple a its.toArray from pt) fun h' he hit hsz hk => ?_
    refine wpAny_pyIter_enum (s := { s1 with heap := h' }) he ?_
    have I2 : Inv X pins σ H1 { s1 with heap := h' } := I1.kept (t' := s1.toks) hk
    refine ⟨s1.heap.objs.size + 1, [s1.heap.objs.size + 1, s1.heap.objs.size], _, _, H1, rfl, I2, B3 (s1.heap.objs.size + 1) s1.heap.objs.size a, ⟨⟨_, by simpa using he⟩, hit⟩, fun b hb => ?_, q hz⟩
    have hb' : s1.heap.objs.size ≤ b := by
      rcases List.mem_cons.mp hb with e | hb
      · rw [e]; exact Nat.le_succ _
      · have : b = s1.heap.objs.size := by simpa using hb
        rw [this]; exact Nat.le_refl _
    exact I1.fpOk hb' (I1.hok.fresh hb')
theorem B4 {K : PySem.W.Frag} {ρ : List Addr} {H : Hp} {hd : Hd} {q : Addr} {l : List D} {vs : List V} (r : RH K ρ H hd) (hq : H q = some (.tup vs)) (rv : RDs K ρ H l vs) (hz : vs.length ≤ sizeLine) :
    pN K ρ H (Ite K q) ((List.range l.length).zip l |>.map fun p => .tup [.int (p.1 : Nat), p.2]) none where
  go := fun ρ' H' hd' i d ex rh _ hi => by
    have k := r.kp ex
    obtain ⟨hil, hi2⟩ := List.getElem?_eq_some_iff.mp hi
    have hl : i < l.length := by simpa using hil
    have hd : d = .tup [.int (i : Nat), l[i]] := by rw [← hi2]; simp
    subst hd
    obtain ⟨v, hv, rd⟩ := (rv.mono k).get (i := i) (d := l[i]) (by simp [hl])
    have sq : SqT K H' q vs := SqT.of (k.tup q vs hq)
    refine ⟨⟨vs, v, sq, hv⟩, fun x H2 y => ?_⟩
    obtain ⟨q2, v2, rfl, hn, rfl, y⟩ := y
    have := y vs sq
    rw [hv] at this
    cases this
    have sm := bT (o := HO.tup [.int (i : Nat), v]) hn
    refine ⟨sm, ?_⟩
    simp only [RD]
    exact ⟨q2, _, rfl, bh, RDs.cons (by simp only [RD]) (RDs.cons (rd.mono (Kp.same sm)) RDs.nil)⟩
  stop := fun ρ' H' hd' ex rh _ => ⟨vs, SqT.of ((r.kp ex).tup q vs hq), by rw [← rv.length]; simp⟩
  sz := by
    have := rv.length
    simp; omega
theorem FL {a : Expr} {f : EF} (hg : Gl X "enumerate") (hm : X.mg "enumerate" = none) (ha : ME X a f) (hs : starEach [a] X.env = [(false, eval a X.env)] := by rfl) : MI X (.Tuple elts tk tp) (.Call (.Name "enumerate" p) [a] [] pos) (DH f) := by
  refine PI.imp (FK hg hm ha hs) fun σ H R ⟨ρ, σd, hd, rs, pp⟩ => ⟨ρ, σd, hd, rs, ?_⟩
  unfold DH at pp
  cases e : f σd hd with
  | exc x h1 => rw [e] at pp; exact pp
  | bad => rw [e] at pp; exact pp
  | ok d hd1 =>
    rw [e] at pp
    simp only [aQ] at pp
    intro v H1 ρ1 ex1 rs1 rv
    cases d <;> try exact pp.elim
    rename_i l
    simp only [rD, RD] at rv
    obtain ⟨q, vs, rfl, hq, rvs⟩ := rv
    exact ⟨q, vs, rfl, SqT.of hq, fun hz => pp _ H1 ρ1 ex1 rs1 (B4 rs1.hp hq rvs hz)⟩
end
end Fm
set_option Elab.async false
set_option linter.all false
set_option maxRecDepth 100000
namespace Fm
open PySem PySem.Spec L2 PySem.W PyProof.Rows
section
variable {prog : Program} {w : World} {A : Around} {E : Value → Shared → Prop} {s : Shared}
theorem yv {a : Addr} {vs : List Value} {n : Nat} {P : PySem.Fin → Shared → Prop} (ho : s.heap.get? a = some (seqObj "list" vs.toArray n)) (h2 : vs.length < 2)
    (h : P (.done (.ret .none)) { s with heap := sortedHeap s.heap a vs vs.toArray }) : wpAny (model prog w) A (Builtin.«list.sort» ⟨[.ref a], []⟩) P E s := by
  rw [list_sort_plain]
  have ha : a < s.heap.objs.size := Heap.lt_size ho
  refine wpAny_bind (listItems_at ho rfl ?_)
  refine wpAny_bind (listUpdate_at ho rfl ?_)
  obtain ⟨e1, ho1⟩ : ∃ e1, (s.heap.update a (Obj.mapSeq fun _ => #[])).get? a = some (seqObj "list" #[] e1) := ⟨_, get?_update_seq ho (fun _ => #[])⟩
  refine wpAny_bind (seqEpoch_at ho1 rfl ?_)
  refine wpAny_bind (wpAny_newTuple ?_)
  refine wpAny_bind (wpAny_newList ?_)
  refine wpAny_holding ?_
  have ho6 : (((s.heap.update a (Obj.mapSeq fun _ => #[])).push (seqObj "tuple" vs.toArray 0)).push (seqObj "list" #[] 0)).get? a = some (seqObj "list" #[] e1) := by
    rw [Heap.get?_push_ne _ _ _ (by rw [size_push', Heap.size_update]; exact Nat.ne_of_lt (Nat.lt_succ_of_lt ha)), Heap.get?_push_ne _ _ _ (by rw [Heap.size_update]; exact Nat.ne_of_lt ha)]
    exact ho1
  show wpAny (model prog w) A _ P E { s with heap := ((s.heap.update a (Obj.mapSeq fun _ => #[])).push (seqObj "tuple" vs.toArray 0)).push (seqObj "list" #[] 0) }
  dsimp only
  have hsz : vs.toArray.size = vs.length := by simp
  have h2' : vs.toArray.size < 2 := by rw [hsz]; exact h2
  rw [if_pos h2', if_pos h2']
  refine wpAny_bind (wpAny_pure ?_)
  rw [StateT.run_pure]
  refine wpAny_bind (wpAny_pure ?_)
  dsimp only
  refine wpAny_bind (seqEpoch_at ho6 rfl ?_)
  refine wpAny_bind (listUpdate_at ho6 rfl ?_ (hsz2 := by rw [Array.size_map]; show (pairsOf vs).size ≤ _; rw [pairsOf_size, sizeLine_eq]; omega))
  simp only [bne_self_eq_false, Bool.false_eq_true, if_false]
  have e : (arrOf (SortSt.mk' general' (vs.toArray.zip vs.toArray) #[] 7 none)).map (·.2) = vs.toArray := by
    show (vs.toArray.zip vs.toArray).map (·.2) = vs.toArray
    apply Array.ext
    · simp
    · intro i h1 h2
      simp
  refine wpAny_pure ?_
  have h' := h
  unfold sortedHeap at h'
  rw [e]
  exact h'
theorem kz {l : Addr} {vs : List Value} {Q : Value → Shared → Prop} (hl : s.heap.IsList l vs.toArray) (h2 : vs.length < 2)
    (h : ∀ h' n, (∀ b o, s.heap.get? b = some o → h'.get? b = some o) → h'.get? (s.heap.objs.size + 1) = some (seqObj "list" vs.toArray n) → Q (.ref (s.heap.objs.size + 1)) { s with heap := h' }) :
    wpAny (model prog w) A (call (.builtin "sorted") [.ref l]) Q E s := by
  refine Calls.call_function_entry kind_sorted plain_sorted entry_sorted (args_sorted1 _) ?_
  unfold Builtin.«sorted»
  refine wpAny_bind (m := checkCount "sorted" 1 1 _) (wpAny_pure ?_)
  refine wpAny_bind (collect_list hl ?_ (by rw [sizeLine_eq]; omega))
  refine wpAny_bind (wpAny_newList ?_ (by rw [sizeLine_eq]; omega))
  have hsz : ((s.heap.push (seqObj "list" #[] 0)).update s.heap.objs.size (Obj.mapSeq (· ++ vs.toArray))).objs.size = s.heap.objs.size + 1 := by
    rw [Heap.size_update, size_push']
  have hoL : (((s.heap.push (seqObj "list" #[] 0)).update s.heap.objs.size (Obj.mapSeq (· ++ vs.toArray))).push (seqObj "list" vs.toArray 0)).get? (s.heap.objs.size + 1) = some (seqObj "list" vs.toArray 0) := by
    rw [← hsz]; exact Heap.get?_push_size _ rfl
  have keep : ∀ b o, s.heap.get? b = some o → (((s.heap.push (seqObj "list" #[] 0)).update s.heap.objs.size (Obj.mapSeq (· ++ vs.toArray))).push (seqObj "list" vs.toArray 0)).get? b = some o := fun b o q => by
    have hlt : b < s.heap.objs.size := Heap.lt_size q
    rw [Heap.get?_push_ne _ _ _ (by rw [hsz]; exact Nat.ne_of_lt (Nat.lt_succ_of_lt hlt)), Heap.get?_update_ne _ _ _ _ (Nat.ne_of_lt hlt), Heap.get?_push_ne _ _ _ (Nat.ne_of_lt hlt)]
    exact q
  show wpAny _ _ _ _ _ { s with heap := ((s.heap.push (seqObj "list" #[] 0)).update s.heap.objs.size (Obj.mapSeq (· ++ vs.toArray))).push (seqObj "list" vs.toArray 0) }
  rw [hsz]
  generalize hG : ((s.heap.push (seqObj "list" #[] 0)).update s.heap.objs.size (Obj.mapSeq (· ++ vs.toArray))).push (seqObj "list" vs.toArray 0) = G at hoL keep
  have hGs : G.objs.size = s.heap.objs.size + 2 := by rw [← hG, size_push', hsz]
  refine wpAny_bind (wpAny_holding (wpAny_call_entry slot_list_sort (s := { s with heap := G }) ⟨_, hoL, rfl⟩ entry_list_sort (yv hoL h2 ⟨_, rfl, ?_⟩) (args_list_sort _)))
  refine wpAny_pure ⟨_, rfl, ?_⟩
  have hlt1 : s.heap.objs.size + 1 < G.objs.size := by omega
  obtain ⟨e1, ho1⟩ : ∃ e1, (G.update (s.heap.objs.size + 1) (Obj.mapSeq fun _ => #[])).get? (s.heap.objs.size + 1) = some (seqObj "list" #[] e1) := ⟨_, get?_update_seq hoL (fun _ => #[])⟩
  have ho6 : (((G.update (s.heap.objs.size + 1) (Obj.mapSeq fun _ => #[])).push (seqObj "tuple" vs.toArray 0)).push (seqObj "list" #[] 0)).get? (s.heap.objs.size + 1) = some (seqObj "list" #[] e1) := by
    rw [Heap.get?_push_ne _ _ _ (by rw [size_push', Heap.size_update]; exact Nat.ne_of_lt (Nat.lt_succ_of_lt hlt1)), Heap.get?_push_ne _ _ _ (by rw [Heap.size_update]; exact Nat.ne_of_lt hlt1)]
    exact ho1
  refine h _ _ (fun b o q => ?_) (get?_update_seq ho6 _)
  have hlt : b < s.heap.objs.size := Heap.lt_size q
  unfold sortedHeap
  have n1 : b ≠ s.heap.objs.size + 1 := Nat.ne_of_lt (Nat.lt_succ_of_lt hlt)
  have n2 : b < G.objs.size := by rw [hGs]; exact Nat.lt_succ_of_lt (Nat.lt_succ_of_lt hlt)
  rw [Heap.get?_update_ne _ _ _ _ n1, Heap.get?_push_ne _ _ _ (by rw [size_push', Heap.size_update]; exact Nat.ne_of_lt (Nat.lt_succ_of_lt n2)), Heap.get?_push_ne _ _ _ (by rw [Heap.size_update]; exact Nat.ne_of_lt n2), Heap.get?_update_ne _ _ _ _ n1]
  exact keep b o q
theorem DX {Q : Bool → Shared → Prop} : ∀ (ns ms : List Int) {xs ys : List Value} (i : Nat), IntsAre xs ns → IntsAre ys ms → Q (Fm.bN ns ms) s → KatLex prog w A true (decide (xs.length < ys.length)) Q (xs.zip ys) i s := by
  intro ns
  induction ns with
  | nil =>
    intro ms xs ys i hx hy h
    cases hx
    cases ms with
    | nil => cases hy; exact h
    | cons m ms =>
      cases hy
      have h' : Q true s := h
      exact h'
  | cons n ns ih =>
    intro ms xs ys i hx hy h
    cases hx with
    | cons _ t r =>
      cases ms with
      | nil =>
        cases hy
        have h' : Q false s := h
        exact h'
      | cons m ms =>
        cases hy with
        | cons _ t' r' =>
          rename_i xs ys
          refine kat_cons (SeqAt.EqAt.int_int n t m t' prog w _ _ ?_)
          by_cases e : n = m
          · subst e
            rw [show (n == n) = true by simp]
            refine kat_yes ?_
            have h' : Q (Fm.bN ns ms) s := by simpa [Fm.bN] using h
            have := ih ms (i + 1) r r' h'
            have e2 : decide ((Value.int n t :: xs).length < (Value.int n t' :: ys).length) = decide (xs.length < ys.length) := by simp
            rw [e2]
            exact this
          · rw [show (n == m) = false by simpa using e]
            refine kat_no ?_
            have h' : Q (decide (n < m)) s := by simpa [Fm.bN, e] using h
            cases i with
            | zero => exact oneLt_int h'
            | succ i =>
              have : (true && (i + 1 == 0)) = false := by simp
              rw [this]
              exact kat_one _ _ (lt_int (by first | exact ⟨_, rfl, h'⟩ | exact h'))
theorem DY {cmp : Nat → Nat → (Bool → Shared → Prop) → Shared → Prop} {n : Nat} {Q : Nat → Shared → Prop} (hc : ∀ m, 1 ≤ m → m < n → ∀ C : Bool → Shared → Prop, C false s → cmp m (m - 1) C s) (q : Q n s) :
    ∀ (f m : Nat), 1 ≤ m → m + f = n → (kas_asc (List.toArray (List.range n)) f m).kasWp cmp Q s
  | 0, m, _, e => by
    have : m = n := by omega
    subst this
    exact q
  | f + 1, m, h1, e => by
    have g1 : (List.toArray (List.range n)).getD m 0 = m := by simp [Array.getD, show m < n by omega]
    have g2 : (List.toArray (List.range n)).getD (m - 1) 0 = m - 1 := by simp [Array.getD, show m - 1 < n by omega]
    show cmp _ _ _ _
    rw [g1, g2]
    refine hc m h1 (by omega) _ ?_
    show KasT.kasWp cmp (if false = true then _ else _) Q s
    rw [if_neg Bool.false_ne_true]
    exact DY hc q f (m + 1) (by omega) (by omega)
theorem vZ {cmp : Nat → Nat → (Bool → Shared → Prop) → Shared → Prop} {n : Nat} {Q : Array Nat → Shared → Prop} (h2 : 2 ≤ n) (hc : ∀ m, 1 ≤ m → m < n → ∀ C : Bool → Shared → Prop, C false s → cmp m (m - 1) C s) (q : Q (List.toArray (List.range n)) s) :
    (kas_sort n).kasWp cmp Q s := by
  unfold kas_sort
  rw [KasT.kasWp_bind]
  unfold kas_count
  rw [KasT.kasWp_bind]
  refine DY hc ?_ (n - 1) 1 (Nat.le_refl _) (by omega)
  rw [if_pos (by simp)]
  show KasT.kasWp cmp (if n < n then _ else _) Q s
  rw [if_neg (Nat.lt_irrefl _)]
  exact q
end
theorem DZ {h : Heap} {a : Addr} {m m' : Str → Option Value} (x : h.Ns a m) (y : h.Ns a m') : m = m' := by
  obtain ⟨o, es, ep, ho, hd, _, r⟩ := x
  obtain ⟨o', es', ep', ho', hd', _, r'⟩ := y
  rw [ho] at ho'; cases ho'
  rw [hd] at hd'; cases hd'
  funext z
  rw [← r z, ← r' z]
theorem D0 {P : Program} {w : World} {H : Hp} {h : Heap} {a : Addr} {o : HO} (x : eN P w H h a o) : ∃ u, h.get? a = some u := by
  cases o with
  | lst xs => obtain ⟨_, _, _, _, e⟩ := x; exact ⟨_, e⟩
  | tup xs => obtain ⟨_, _, _, _, e, _⟩ := x; exact ⟨_, e⟩
  | dK kvs => obtain ⟨_, _, _, _, _, _, _, e, _⟩ := x; exact ⟨_, e⟩
  | dT kvs => obtain ⟨_, _, _, _, _, _, _, e, _⟩ := x; exact ⟨_, e⟩
  | set S n => obtain ⟨_, _, _, _, e, _⟩ := x; exact ⟨_, e⟩
  | ins C dx fs => obtain ⟨_, _, _, e, _⟩ := x; exact ⟨_, e⟩
  | own y => exact x
  | xd fs => obtain ⟨_, ⟨_, _, _, e, _⟩, _⟩ := x; exact ⟨_, e⟩
  | rng lo hi => obtain ⟨_, _, _, e⟩ := x; exact ⟨_, e⟩
  | frz ob u => exact ⟨_, x.1⟩
  | tbl ps => exact ⟨_, x⟩
  | met f y => exact ⟨_, x⟩
  | ext φ => exact x.2.1
inductive dq (H : Hp) : List V → List (List Int) → Prop
  | nil : dq H [] []
  | cons {a : Addr} {r : List Int} {vs : List V} {rs : List (List Int)} : H a = some (.tup (r.map V.int)) → dq H vs rs → dq H (.ref a :: vs) (r :: rs)
theorem dq.get {H : Hp} : ∀ {vs : List V} {rs : List (List Int)} {i : Nat} {v : V}, dq H vs rs → vs[i]? = some v → ∃ a, v = .ref a ∧ H a = some (.tup ((rs.getD i []).map V.int))
  | _, _, _, _, .nil, e => by simp at e
  | _, _, 0, _, .cons h t, e => by simp at e; subst e; exact ⟨_, rfl, h⟩
  | _, _, i + 1, v, .cons h t, e => by
    obtain ⟨a, h1, h2⟩ := dq.get (i := i) (v := v) t (by simpa using e)
    exact ⟨a, h1, by simpa using h2⟩
theorem dq.length {H : Hp} : ∀ {vs : List V} {rs : List (List Int)}, dq H vs rs → vs.length = rs.length
  | _, _, .nil => rfl
  | _, _, .cons _ t => by simp [dq.length t]
theorem v5 : ∀ {rs : List (List Int)} {m : Nat}, tM rs = true → 1 ≤ m → m < rs.length → Fm.bN (rs.getD m []) (rs.getD (m - 1) []) = false
  | [], m, _, _, h => by simp at h
  | [r], m, _, h1, h => by simp at h; omega
  | a :: b :: r, m, h, h1, hl => by
    simp only [tM, Bool.and_eq_true, Bool.not_eq_true'] at h
    cases m with
    | zero => omega
    | succ m =>
      cases m with
      | zero => simpa using h.1
      | succ m =>
        have := v5 (rs := b :: r) (m := m + 1) h.2 (by omega) (by simpa using hl)
        simpa using this
section
variable {X : Cx} {pos p : Pos}
def Jv (K : PySem.W.Frag) : List V → Hp → VK → Prop := fun xs H Q => ∃ (a : Addr) (vs : List V) (rs : List (List Int)), xs = [.ref a] ∧ SqL K H a vs ∧ vs.length < 64 ∧ dq H vs rs ∧ tM rs = true ∧ (rs.all fun x => !x.isEmpty) = true ∧ ∀ q, H q = none → Q (.ref q) (upd H q (.lst vs))
theorem Be {i : Int} {u : Value} (r : bK (.int i) u) : ∃ t, u = .int i t := r
theorem nU {P : Program} {w : World} {H : Hp} {h h' : Heap} (hok : HOk P w H h) (hk : ∀ b o u, H b = some u → h.get? b = some o → h'.get? b = some o) : ∀ {vs : List V} {rs : List (List Int)} {its : List Value}, dq H vs rs → aP vs its → (rs.all fun x => !x.isEmpty) = true →
    ∃ fs, KatTups h' its fs ∧ fs.length = its.length ∧ ∀ v ∈ fs, ∃ i t, v = Value.int i t
  | _, _, _, .nil, .nil, _ => ⟨[], .nil, rfl, fun v hv => by simp at hv⟩
  | _, _, _, .cons (a := a) (r := r) ha t, .cons rv rt, hne => by
    simp only [List.all_cons, Bool.and_eq_true, Bool.not_eq_true'] at hne
    obtain ⟨fs, h1, h2, h3⟩ := nU hok hk t rt hne.2
    obtain ⟨z, its0, r0, o, ho, hc, n, hd⟩ := hok a _ ha
    cases r with
    | nil => simp at hne
    | cons i r =>
      cases r0 with
      | cons q0 qr =>
        rename_i u us
        obtain ⟨tk, rfl⟩ := Be q0
        cases rv
        refine ⟨.int i tk :: fs, KatTups.cons (hk a o _ ha ho) hc hd (by simp) h1, by simp [h2], fun v hv => ?_⟩
        rcases List.mem_cons.mp hv with rfl | hv
        · exact ⟨i, tk, rfl⟩
        · exact h3 v hv
theorem yw : gp X (.builtin "sorted") (Jv X.K) := by
  intro pins s σ H xs us Q I r h
  obtain ⟨a, vs, rs, rfl, sq, h64, rv, asc, hne, q⟩ := h
  obtain ⟨u, rfl, ru⟩ := aP.one r
  cases (show u = Value.ref a from ru)
  obtain ⟨its, rvs, pl, hz⟩ := I.list sq
  have hl : s.heap.IsList a its.toArray := pl.isList
  have hlen : its.length = vs.length := rvs.length.symm
  by_cases h2 : its.length < 2
  · refine kz hl h2 fun h' n hk ho => ?_
    exact ⟨.ref (s.heap.objs.size + 1), _, I.laid (t' := s.toks) (o := .lst vs) hk (Nat.le_succ _) ⟨hz, its, n, rvs, ho⟩, rfl, q _ (I.hok.fresh (Nat.le_succ _))⟩
  · obtain ⟨m, hm, _⟩ := id I.loc
    have N0 : News (Att.noObjs s.heap) X.env.locals s.heap (Att.ledger s.heap X.env.locals X.env.locals) := fun ⟨b, o⟩ hb => by
      obtain ⟨n1, n2, e⟩ := Att.mem_ledger.mp hb
      exact ⟨e, n1, Att.noObjs_get _ _⟩
    refine kat_sorted (Att.fr_all hm) N0 hl (by omega) (by omega) fun D e1 h' F' N' lo => ?_
    have inN : ∀ b o, b ≠ X.env.locals → s.heap.get? b = some o → (b, o) ∈ Att.ledger s.heap X.env.locals X.env.locals := fun b o hb e => Att.mem_ledger.mpr ⟨hb, hb, e⟩
    have keep' : ∀ b o, b ≠ X.env.locals → s.heap.get? b = some o → h'.get? b = some o := fun b o hb e => (N' (b, o) (List.mem_cons_of_mem _ (inN b o hb e))).1
    have nL : ∀ b u, H b = some u → b ≠ X.env.locals := fun b u e z => by rw [z, I.free] at e; cases e
    obtain ⟨fs, t1, t2, t3⟩ := nU I.hok (h' := h') (fun b o u hb e => keep' b o (nL b u hb) e) rv rvs hne
    refine kat_kind (s := { s with heap := h' }) (T := .type "int") t1 (by omega) (fun v hv => ?_) rfl ?_
    · obtain ⟨i, t, rfl⟩ := t3 v hv
      exact Looks.of_pure rfl
    · have hT : (Value.type "int" != Value.type "tuple") = true := by decide
      rw [hT]
      refine vZ (by omega) (fun k h1 hk C hC => ?_) ?_
      · have cmp : ∀ (i j : Nat), i < its.length → j < its.length → ∀ C : Bool → Shared → Prop, C (Fm.bN (rs.getD i []) (rs.getD j [])) { s with heap := h' } → kas_ask X.prog X.w X.A.in1.in1 (tuples' true) its i j C { s with heap := h' } := fun i j hi hj C hC => by
          unfold kas_ask
          have at' : ∀ i, i < its.length → ∃ b, its.getD i Value.none = .ref b ∧ ∃ (o : Obj) (zs : List Value) (n : Nat), h'.get? b = some o ∧ o.data = .seq zs.toArray n ∧ IntsAre zs (rs.getD i []) := fun i hi => by
            have hv : vs[i]? = some (vs[i]'(by omega)) := by simp [show i < vs.length by omega]
            obtain ⟨b, e1, e2⟩ := rv.get hv
            obtain ⟨u, hu, ru⟩ := rvs.get hv
            rw [e1] at ru
            cases (show u = Value.ref b from ru)
            obtain ⟨z, zs, r0, o, ho, hc, n, hd⟩ := I.hok b _ e2
            exact ⟨b, by simp [List.getD, hu], o, zs, n, keep' b o (nL b _ e2) ho, hd, nI r0⟩
          obtain ⟨b1, x1, o1, z1, n1, y1, d1, i1⟩ := at' i hi
          obtain ⟨b2, x2, o2, z2, n2, y2, d2, i2⟩ := at' j hj
          rw [x1, x2]
          refine kat_lt (s := { s with heap := h' }) y1 d1 y2 d2 ?_
          have := DX (prog := X.prog) (w := X.w) (A := X.A.in1.in1) (s := { s with heap := h' }) (Q := C) (rs.getD i []) (rs.getD j []) 0 i1 i2 hC
          simpa using this
        refine cmp k (k - 1) hk (by omega) C ?_
        rw [v5 asc h1 (by rw [← rv.length]; omega)]
        exact hC
      · have eo : ((List.toArray (List.range its.length)).toList.map fun i => its.getD i Value.none) = its := by
          apply List.ext_getElem
          · simp
          · intro i h1 h2
            simp [List.getD, h2]
        rw [eo]
        have hDn : ∀ q ∈ Att.ledger s.heap X.env.locals X.env.locals, q.1 ≠ D := fun q hq => Nat.ne_of_lt (lo q hq)
        refine KasFin.intro F' N' (UpdF.head hDn) fun h2 c F2 N2 => ?_
        have DL : D ≠ X.env.locals := (N' (D, _) (List.mem_cons_self ..)).2.1
        have hD2 : h2.get? D = some (PySem.W.listOf its.toArray c) := (N2 (D, _) (List.mem_cons_self ..)).1
        have keep2 : ∀ b o, b ≠ X.env.locals → s.heap.get? b = some o → h2.get? b = some o := fun b o hb e => (N2 (b, o) (List.mem_cons_of_mem _ (inN b o hb e))).1
        have bD : ∀ b o, s.heap.get? b = some o → b ≠ D := fun b o e => by
          by_cases hb : b = X.env.locals
          · rw [hb]; exact Ne.symm DL
          · exact hDn (b, o) (inN b o hb e)
        have HD : H D = none := by
          cases e : H D with
          | none => rfl
          | some u =>
            have lt := I.hok.lt e
            have : ∃ o, s.heap.get? D = some o := by
              have ok := I.hok D u e
              exact D0 ok
            obtain ⟨o, ho⟩ := this
            exact absurd rfl (bD D o ho)
        refine ⟨.ref D, upd H D (.lst vs), ?_, rfl, q D HD⟩
        suffices I2 : L2.Inv X pins σ (upd H D (.lst vs)) { s with heap := h2, gens := s.gens, drawn := s.drawn, toks := s.toks } from I2
        refine I.step (g' := s.gens) (d' := s.drawn) (t' := s.toks) (ch := []) (fun _ z => nomatch z) (fun b o hb _ _ e _ => keep2 b o hb e) (fun b o hb _ _ e _ => ⟨o.slots, keep2 b o hb e⟩) (fun b o _ e n => by rw [aD (bD b o e)]; exact n) (fun b o _ e => ?_)
          (fun b ys e => by rw [aD (aG e HD)]; exact e) (fun b o u e => by rw [aD (aG e HD)]; exact e) (fun b ps e => ⟨#[], by rw [aD (aG e HD), e]; simp⟩) (fun m' hm' => by rw [DZ hm' hm]; exact F2.ns) (fun b u e => ?_) I.bare
        · by_cases hb : b = X.env.locals
          · obtain ⟨o', _, _, ho', _⟩ := F2.ns
            rw [hb]; exact ⟨o', ho'⟩
          · exact ⟨o, keep2 b o hb e⟩
        · by_cases hb : b = D
          · subst hb
            rw [bh] at e
            cases e
            exact ⟨hz, its, c, rvs, hD2⟩
          · rw [aD hb] at e
            refine (I.hok b u e).stay (fun c v hc z => ?_) (fun c z => by rw [aD (aG z HD)]; exact z) fun c ys z => by rw [aD (aG z HD)]; exact z
            rcases hc with w | w
            · subst w; exact keep2 c v (nL c _ e) z
            · exact keep2 c v (nL c _ w) z
theorem nV {K : PySem.W.Frag} {ρ : List Addr} {H : Hp} : ∀ {l : List D} {vs : List V} {rs : List (List Int)}, RDs K ρ H l vs → mZ l = some rs → dq H vs rs
  | [], _, _, r, e => by simp only [mZ] at e; cases e; simp only [RDs] at r; subst r; exact .nil
  | d :: l, _, rs, r, e => by
    simp only [RDs] at r
    obtain ⟨v, vs, rfl, h1, h2⟩ := r
    cases d <;> simp only [mZ] at e <;> try (cases e; done)
    rename_i l1
    cases c1 : gq l1 with
    | none => rw [c1] at e; cases e
    | some is =>
      cases c2 : mZ l with
      | none => rw [c1, c2] at e; cases e
      | some r2 =>
        rw [c1, c2] at e
        cases e
        simp only [RD] at h1
        obtain ⟨p, ws, rfl, hp, rws⟩ := h1
        have := nR rws c1
        subst this
        exact .cons hp (nV h2 c2)
theorem D1 {a : Expr} {fa : EF} (hg : Gl X "sorted") (hm : X.mg "sorted" = none) (ha : ME X a fa) (hs : starEach [a] X.env = (false, eval a X.env) :: starEach [] X.env := by rfl) : MF X (.Call (.Name "sorted" p) [a] [] pos) (lu fa) := by
  refine PE.imp (gS yw hg hm (by decide +kernel) (bG ha cD hs) (he := hs)) fun σ H Q ⟨ρ, σd, hd, rs, pp⟩ => ⟨ρ, σd, hd, rs, ?_⟩
  unfold lu at pp
  cases e : fa σd hd with
  | exc x h' => rw [e] at pp; exact pp
  | bad => rw [e] at pp; exact pp
  | ok d hd1 =>
    rw [e] at pp
    simp only [aQ] at pp
    intro v H1 ρ1 e1 rs1 rv
    cases c : bP hd1 d with
    | none => rw [c] at pp; exact pp.elim
    | some l =>
      rw [c] at pp
      simp only at pp
      cases c2 : ni l with
      | none => rw [c2] at pp; exact pp.elim
      | some l' =>
        rw [c2] at pp
        simp only [ni] at c2
        cases c3 : mZ l with
        | none => rw [c3] at c2; cases c2
        | some r =>
          rw [c3] at c2
          simp only at c2
          split at c2
          · rename_i hc
            cases c2
            obtain ⟨q, vs, rfl, sq, rvs⟩ := gu rs1.hp rv c
            exact ⟨q, vs, r, rfl, sq, by rw [← rvs.length]; exact hc.1, nV rvs c3, hc.2.1, hc.2.2, pp.mk e1 rs1 rvs⟩
          · cases c2
end
end Fm
set_option Elab.async false
set_option linter.all false
set_option maxRecDepth 100000
namespace Fm
open PySem PySem.Spec L2
section
variable {X : Cx}
theorem mv (i : Nat) {x : Str} {pos : Pos} (hN : X.N[i]? = some x := by rfl) (hv : Vis X.env.scope x := by first | exact Or.inl rfl | exact Or.inr (Or.inl rfl) | exact Or.inr (Or.inr rfl)) (hd : (x == ("__debug__" : Str)) = false := by decide)
    (hcd : (x == ("__classdict__" : Str)) = false := by decide) : ME X (.Name x pos) (aa i) := HH hN hv hd hcd
end
theorem dF {k : Nat} {A : Around} (r : gE k A) : A.units + 24 < cLine := by have := r.un; omega
def aZ (X : Cx) : List (Str × NameKind) → Prop
  | [] => True
  | y :: r => (y.2 = .free → X.env.kindOf y.1 = some .cell ∨ X.env.kindOf y.1 = some .free) ∧ aZ X r
def bX (X : Cx) (scope : Scope) : List Str → List Nat → Prop
  | [], [] => True
  | x :: xs, i :: is => (X.N[i]? = some x ∧ scope.names.lookup x = some .free) ∧ bX X scope xs is
  | _, _ => False
theorem aZ.get {X : Cx} : ∀ {l : List (Str × NameKind)}, aZ X l → ∀ y ∈ l, y.2 = .free → X.env.kindOf y.1 = some .cell ∨ X.env.kindOf y.1 = some .free
  | [], _, y, hy => by simp at hy
  | z :: r, h, y, hy => by
    rcases List.mem_cons.mp hy with rfl | hy
    · exact h.1
    · exact aZ.get h.2 y hy
theorem bX.get {X : Cx} {scope : Scope} : ∀ {capn : List Str} {caps : List Nat}, bX X scope capn caps → (∀ (j : Nat) x, capn[j]? = some x → ∃ i, caps[j]? = some i ∧ X.N[i]? = some x ∧ scope.names.lookup x = some .free) ∧ capn.length = caps.length
  | [], [], _ => ⟨fun j x e => by simp at e, rfl⟩
  | x :: xs, i :: is, h => by
    obtain ⟨h1, h2⟩ := bX.get h.2
    refine ⟨fun j y e => ?_, by simp [h2]⟩
    cases j with
    | zero => simp at e; subst e; exact ⟨i, rfl, h.1⟩
    | succ j => exact h1 j y (by simpa using e)
  | [], _ :: _, h => h.elim
  | _ :: _, [], h => h.elim
theorem aZ.nil {X : Cx} : aZ X [] := trivial
theorem aZ.cons {X : Cx} {y : Str × NameKind} {r : List (Str × NameKind)} (h : y.2 = .free → X.env.kindOf y.1 = some .cell ∨ X.env.kindOf y.1 = some .free) (t : aZ X r) : aZ X (y :: r) := ⟨h, t⟩
theorem bX.nil {X : Cx} {scope : Scope} : bX X scope [] [] := trivial
theorem bX.cons {X : Cx} {scope : Scope} {x : Str} {xs : List Str} {i : Nat} {is : List Nat} (h1 : X.N[i]? = some x) (h2 : scope.names.lookup x = some .free) (t : bX X scope xs is) : bX X scope (x :: xs) (i :: is) := ⟨⟨h1, h2⟩, t⟩
theorem bR.mk' {X : Cx} {scope : Scope} {own capn : List Str} {caps : List Nat} (k : scope.kind = .function) (c : ∀ y ∈ scope.names, y.2 ≠ .cell) (n : ∀ y ∈ scope.names, y.2 = .local → scope.names.lookup y.1 = some .local) (f : aZ X scope.names) (cp : bX X scope capn caps) : bR X scope own capn caps :=
  ⟨k, c, n, f.get, cp.get.1, cp.get.2⟩
end Fm
set_option Elab.async false
set_option linter.all false
set_option maxRecDepth 100000
namespace Fm
open PySem PySem.Spec L2
section
variable {K : PySem.W.Frag} {ρ : List Addr} {H : Hp}
theorem nW {d : D} {v : V} (h : RD K ρ H d v) (f : cy d = true) : gU v = true := by
  cases d <;> simp only [RD] at h <;> first | (subst h; rfl) | (simp [cy] at f)
theorem eqS {x y : List Nat} : (x == y) = (toS x == toS y) := by
  by_cases z : x = y
  · subst z; rw [beq_self_eq_true, beq_self_eq_true]
  · have : ¬ toS x = toS y := fun q => z (by have := congrArg (fun (s : Str) => s.cps.toList) q; simpa [toS] using this)
    rw [beq_eq_false_iff_ne.mpr z, beq_eq_false_iff_ne.mpr this]
theorem Bf {d k : D} {v w : V} (h : RD K ρ H d v) (g : RD K ρ H k w) (f : cy d = true) (f2 : cy k = true) : eqF d k = eqV v w := by
  cases d with
  | non => simp only [RD] at h; subst h; cases k <;> simp only [RD] at g <;> first | (subst g; rfl) | (simp [cy] at f2)
  | bl a => simp only [RD] at h; subst h; cases k <;> simp only [RD] at g <;> first | (subst g; rfl) | (simp [cy] at f2)
  | int a => simp only [RD] at h; subst h; cases k <;> simp only [RD] at g <;> first | (subst g; rfl) | (simp [cy] at f2)
  | str a => simp only [RD] at h; subst h; cases k <;> simp only [RD] at g <;> first | (subst g; rfl) | (subst g; exact eqS) | (simp [cy] at f2)
  | tup l => simp [cy] at f
  | ref n => simp [cy] at f
  | lit l => simp [cy] at f
  | exn c l => simp [cy] at f
theorem lC : ∀ {l : List D} {vs : List V}, RDs K ρ H l vs → l.all cy = true → vs.all gU = true
  | [], _, h, _ => by simp only [RDs] at h; subst h; rfl
  | d :: l, _, h, f => by
    simp only [RDs] at h
    obtain ⟨v, r, rfl, h1, h2⟩ := h
    simp only [List.all_cons, Bool.and_eq_true] at f ⊢
    exact ⟨nW h1 f.1, lC h2 f.2⟩
theorem Bg {k : D} {w : V} (g : RD K ρ H k w) (fk : cy k = true) : ∀ {l : List D} {vs : List V}, RDs K ρ H l vs → l.all cy = true → (l.any fun z => eqF z k) = vs.any fun z => eqV z w
  | [], _, h, _ => by simp only [RDs] at h; subst h; rfl
  | d :: l, _, h, f => by
    simp only [RDs] at h
    obtain ⟨v, r, rfl, h1, h2⟩ := h
    simp only [List.all_cons, Bool.and_eq_true] at f
    rw [List.any_cons, List.any_cons, Bf h1 g f.1 fk, Bg g fk h2 f.2]
theorem se {k : D} {w : V} (g : RD K ρ H k w) (fk : cy k = true) : ∀ {l : List D} {vs : List V}, RDs K ρ H l vs → l.all cy = true → (l.countP fun z => eqF z k) = vs.countP fun z => eqV z w
  | [], _, h, _ => by simp only [RDs] at h; subst h; rfl
  | d :: l, _, h, f => by
    simp only [RDs] at h
    obtain ⟨v, r, rfl, h1, h2⟩ := h
    simp only [List.all_cons, Bool.and_eq_true] at f
    rw [List.countP_cons, List.countP_cons, Bf h1 g f.1 fk, se g fk h2 f.2]
end
section
variable {X : Cx} {pos : Pos}
theorem FM {K : PySem.W.Frag} {neg : Bool} {ρ : List Addr} {H : Hp} {σd : Sd} {hd : Hd} {σ : St} {d k : D} {v w : V} {Q : VK} {b : Bool} (rs : RS K ρ H σd hd σ) (rv : RD K ρ H d v) (rw' : RD K ρ H k w) (e : inL hd d k = some b)
    (q : Q (.bl (if neg then !b else b)) H) : rIn K neg v w H Q := by
  simp only [inL] at e
  cases c : gW hd k with
  | none => rw [c] at e; cases e
  | some l =>
    rw [c] at e
    simp only at e
    split at e
    · rename_i hf
      cases e
      rw [Bool.and_eq_true] at hf
      obtain ⟨p, vs, rfl, sq, rvs⟩ := tQ rs.hp rw' c
      refine ⟨p, vs, rfl, sq.imp id SqT.of, nW rv hf.1, lC rvs hf.2, ?_⟩
      unfold inV
      rw [← Bg rv hf.1 rvs hf.2]
      exact q
    · cases e
theorem nX {K : PySem.W.Frag} : Og K eS (rIn K true) := by
  intro ρ H σd hd σ d k v w Q rs rv rw' p
  unfold eS at p
  cases e : inL hd d k with
  | none => rw [e] at p; exact p.elim
  | some b => rw [e] at p; exact FM rs rv rw' e (p.here rs (by simp only [rD, RD]; rfl))
theorem tW {i : Int} {j : Nat} {p2 : Pos} : ME X (.UnaryOp .USub (.Constant (.int i) j p2) pos) (fC (.int (-i))) :=
  PE.imp (GM Dw x8) fun σ H Q ⟨ρ, σd, hd, rs, p⟩ => ⟨i, rfl, p.here rs (by simp only [rD, RD])⟩
def HX (K : PySem.W.Frag) : V → List V → Hp → VK → Prop := fun x vs H Q => ∃ l xs y, x = .ref l ∧ vs = [y] ∧ SqL K H l xs ∧ gU y = true ∧ xs.all gU = true ∧ Q (.int (xs.countP fun z => eqV z y)) H
theorem D2 {x : V} : ∀ {xs : List V} {us : List Value}, aP xs us → xs.all gU = true → us.countP (eqU x) = xs.countP fun y => eqV y x
  | _, _, .nil, _ => rfl
  | y :: xs, u :: us, .cons r t, f => by
    rw [List.all_cons, Bool.and_eq_true] at f
    rw [List.countP_cons, List.countP_cons, yj r f.1, D2 t f.2]
theorem D3 : MtM X "list.count" (HX X.K) := by
  intro pins s σ H x vs v us Q I rx rv h
  obtain ⟨l, xs, y, rfl, rfl, sq, fy, fs, q⟩ := h
  cases rx
  obtain ⟨u, rfl, ru⟩ := rv.one
  obtain ⟨its, r, pl, hz⟩ := I.list sq
  obtain ⟨o, ho, hc, n, hd⟩ := pl.isList
  obtain ⟨c, dd, dt, sl⟩ := o
  replace hc : c = .type "list" := hc
  replace hd : dt = .seq its.toArray n := hd
  subst hc hd
  refine call_meets F.slot_list_count ⟨_, ho, rfl⟩ F.entry_list_count (F.args_list_count_2 _ _) (SeqAt.list_countAt l its.toArray n dd sl u (eqU y)) ⟨ho, fun w hw => kn ru fy r fs w (by simpa using hw), ?_⟩
  refine ⟨.int _, H, I.tok _, ⟨_, rfl⟩, ?_⟩
  rw [show (its.toArray.toList.countP (eqU y)) = xs.countP fun z => eqV z y from D2 r fs]
  exact q
theorem D4 {o e : Expr} {fo fe : EF} {apos cpos : Pos} (ho : ME X o fo) (he : ME X e fe) (hbase : attributeBase o "count" X.env (eval o X.env) = eval o X.env := by rfl)
    (hfew : ((backTo cpos (starEach [e] X.env)).all (fun x => !x.1) && (backToKw cpos (keywordEach [] X.env)).all (fun x => x.1.isSome)
      && decide (([e] : List Expr).length + ([] : List Keyword).length + (if ([] : List Keyword).isEmpty then 0 else 1) < 30)) = true := by rfl)
    (hline : (apos.endLine == cpos.line) = true := by rfl) (hs : starEach [e] X.env = (false, eval e X.env) :: starEach [] X.env := by rfl) :
    ME X (.Call (.Attribute o "count" apos) [e] [] cpos) (jU fo fe) := by
  refine PE.imp (A5 PySem.F.plainAttrs_list PySem.F.slot_list_count PySem.F.type_list_count D3 ho (bG he cD hs) hbase hfew hline hs) fun σ H Q ⟨ρ, σd, hd, rs, pp⟩ => ⟨ρ, σd, hd, rs, ?_⟩
  unfold jU at pp
  refine (br.bind (R := rD X.K) pp).imp fun v H1 ⟨ρ1, d, hd1, e1, rs1, rv, p1⟩ => ?_
  cases c1 : bP hd1 d with
  | none => simp only [c1] at p1; exact p1.elim
  | some l1 =>
    simp only [c1] at p1
    obtain ⟨q, vs, hv, sq, rvs⟩ := gu rs1.hp rv c1
    subst hv
    refine ⟨.inl ⟨rfl, vs, sq⟩, ρ1, σd, hd1, rs1, (br.bind (R := rD X.K) p1).imp fun w H2 ⟨ρ2, k, hd2, e2, rs2, rw', p2⟩ => ?_⟩
    cases c2 : bP hd2 d with
    | none => simp only [c2] at p2; exact p2.elim
    | some l =>
      simp only [c2] at p2
      split at p2
      · rename_i hf
        rw [Bool.and_eq_true] at hf
        obtain ⟨q', vs', hv', sq', rvs'⟩ := gu rs2.hp (rv.mono (rs1.hp.kp e2)) c2
        refine ⟨q', vs', w, hv', rfl, sq', nW rw' hf.1, lC rvs' hf.2, ?_⟩
        rw [← se rw' hf.1 rvs' hf.2]
        exact p2.here rs2 (by simp only [rD, RD])
      · exact p2.elim
end
end Fm
set_option Elab.async false
set_option linter.all false
set_option maxRecDepth 100000
namespace Fm
open PySem PySem.Spec L2 PySem.W PyProof.Rows
theorem HY {l r : Nat} (h : l < r) : l ≤ (l + r) / 2 ∧ (l + r) / 2 < r := by omega
section
variable {cmp : Nat → Nat → (Bool → Shared → Prop) → Shared → Prop} {n : Nat} {s : Shared} {lt : Nat → Nat → Bool}
structure Ord (lt : Nat → Nat → Bool) (n : Nat) : Prop where
  asy : ∀ i j, i < n → j < n → lt i j = true → lt j i = false
  tr : ∀ i j k, i < n → j < n → k < n → lt i j = true → lt j k = true → lt i k = true
  tot : ∀ i j, i < n → j < n → i ≠ j → lt i j = false → lt j i = true
structure Gd (n : Nat) (p : Array Nat) : Prop where
  sz : p.size = n
  pm : p.Perm (List.toArray (List.range n))
theorem Gd.below (g : Gd n p) {i : Nat} (hi : i < n) : p.getD i 0 < n := by
  have h1 : i < p.size := by rw [g.sz]; exact hi
  have e : p.getD i 0 = p[i] := by simp [Array.getD, h1]
  rw [e]
  have m : p[i] ∈ p.toList := by simp
  have := (Array.perm_iff_toList_perm.mp g.pm).mem_iff.mp m
  simpa using this
theorem Gd.ne (g : Gd n p) {i j : Nat} (hi : i < n) (hj : j < n) (h : i ≠ j) : p.getD i 0 ≠ p.getD j 0 := by
  have h1 : i < p.size := by rw [g.sz]; exact hi
  have h2 : j < p.size := by rw [g.sz]; exact hj
  have e : p.getD i 0 = p[i] := by simp [Array.getD, h1]
  have e' : p.getD j 0 = p[j] := by simp [Array.getD, h2]
  rw [e, e']
  have nd : p.toList.Nodup := (Array.perm_iff_toList_perm.mp g.pm).nodup_iff.mpr (by simpa using List.nodup_range)
  intro z
  have := (List.getElem_inj (xs := p.toList) nd (i := i) (j := j) (h₀ := by simpa using h1) (h₁ := by simpa using h2)).mp (by simpa using z)
  exact h this
def Srt (lt : Nat → Nat → Bool) (p : Array Nat) (m : Nat) : Prop := ∀ i j, i < j → j < m → lt (p.getD i 0) (p.getD j 0) = true
def Dsc (lt : Nat → Nat → Bool) (p : Array Nat) (m : Nat) : Prop := ∀ i j, i < j → j < m → lt (p.getD j 0) (p.getD i 0) = true
theorem fV : Gd n (List.toArray (List.range n)) := ⟨by simp, Array.Perm.refl _⟩
theorem Srt.next {p : Array Nat} {m : Nat} (O : Ord lt n) (g : Gd n p) (h : Srt lt p m) (h1 : 1 ≤ m) (hm : m < n) (c : lt (p.getD (m - 1) 0) (p.getD m 0) = true) : Srt lt p (m + 1) := by
  intro i j hij hj
  by_cases e : j < m
  · exact h i j hij e
  · have : j = m := by omega
    subst this
    by_cases e2 : i = j - 1
    · subst e2; exact c
    · exact O.tr _ _ _ (g.below (by omega)) (g.below (by omega)) (g.below hm) (h i (j - 1) (by omega) (by omega)) c
theorem Dsc.next {p : Array Nat} {m : Nat} (O : Ord lt n) (g : Gd n p) (h : Dsc lt p m) (h1 : 1 ≤ m) (hm : m < n) (c : lt (p.getD m 0) (p.getD (m - 1) 0) = true) : Dsc lt p (m + 1) := by
  intro i j hij hj
  by_cases e : j < m
  · exact h i j hij e
  · have : j = m := by omega
    subst this
    by_cases e2 : i = j - 1
    · subst e2; exact c
    · exact O.tr _ _ _ (g.below hm) (g.below (by omega)) (g.below (by omega)) c (h i (j - 1) (by omega) (by omega))
variable (O : Ord lt n) (hc : ∀ i j, i < n → j < n → ∀ C : Bool → Shared → Prop, C (lt i j) s → cmp i j C s)
include O hc
theorem jY {p : Array Nat} (g : Gd n p) {Q : Nat → Shared → Prop} (q : ∀ m, 1 ≤ m → m ≤ n → Srt lt p m → (m < n → lt (p.getD m 0) (p.getD (m - 1) 0) = true) → Q m s) :
    ∀ (f m : Nat), 1 ≤ m → m + f = n → Srt lt p m → (kas_asc p f m).kasWp cmp Q s
  | 0, m, h1, e, h => q m h1 (by omega) h fun z => by omega
  | f + 1, m, h1, e, h => by
    refine hc _ _ (g.below (by omega)) (g.below (by omega)) _ ?_
    cases c : lt (p.getD m 0) (p.getD (m - 1) 0) with
    | true => ((try dsimp only); (try rw [if_pos rfl])); exact q m h1 (by omega) h fun _ => c
    | false =>
      ((try dsimp only); (try rw [if_neg Bool.false_ne_true]))
      have c' := O.tot _ _ (g.below (by omega)) (g.below (by omega)) (g.ne (i := m) (j := m - 1) (by omega) (by omega) (by omega)) c
      exact jY g q f (m + 1) (by omega) (by omega) (h.next O g h1 (by omega) c')
theorem mD {p : Array Nat} (g : Gd n p) {Q : Array Nat × Nat × Nat → Shared → Prop} (q : ∀ m, 1 ≤ m → m ≤ n → Dsc lt p m → Q (p, m, 0) s) :
    ∀ (f m : Nat), 1 ≤ m → m + f = n → Dsc lt p m → (kas_desc f p m 0).kasWp cmp Q s
  | 0, m, h1, e, h => q m h1 (by omega) h
  | f + 1, m, h1, e, h => by
    refine hc _ _ (g.below (by omega)) (g.below (by omega)) _ ?_
    cases c : lt (p.getD m 0) (p.getD (m - 1) 0) with
    | true =>
      ((try dsimp only); (try rw [if_pos rfl])); (try rw [if_neg (by omega)])
      exact mD g q f (m + 1) (by omega) (by omega) (h.next O g h1 (by omega) c)
    | false =>
      ((try dsimp only); (try rw [if_neg Bool.false_ne_true]))
      have c' := O.tot _ _ (g.below (by omega)) (g.below (by omega)) (g.ne (i := m) (j := m - 1) (by omega) (by omega) (by omega)) c
      refine hc _ _ (g.below (by omega)) (g.below (by omega)) _ ?_
      rw [c']; ((try dsimp only); (try rw [if_pos rfl]))
      exact q m h1 (by omega) h
omit hc in
theorem HZ {p : Array Nat} (g : Gd n p) {m : Nat} (hm : m ≤ n) (h : Dsc lt p m) : Gd n (kas_rev p 0 m) ∧ Srt lt (kas_rev p 0 m) m := by
  have at' : ∀ k, k < m → (kas_rev p 0 m).getD k 0 = p.getD (m - 1 - k) 0 := fun k hk => by
    have e := getElem?_mirror_all (xs := p) (i := 0) (j := m) (by rw [g.sz]; exact hm) k
    rw [if_pos ⟨Nat.zero_le _, hk⟩] at e
    unfold kas_rev
    rw [Array.getD_eq_getD_getElem?, Array.getD_eq_getD_getElem?, e, Nat.zero_add]
  refine ⟨⟨by unfold kas_rev; rw [mirror_size, g.sz], (mirror_perm _ _ _ _).trans g.pm⟩, fun i j hij hj => ?_⟩
  rw [at' i (by omega), at' j hj]
  exact h _ _ (by omega) (by omega)
theorem tX (h2 : 2 ≤ n) {Q : Nat × Array Nat → Shared → Prop} (q : ∀ m p, Gd n p → 1 ≤ m → m ≤ n → Srt lt p m → Q (m, p) s) : (kas_count n (List.toArray (List.range n))).kasWp cmp Q s := by
  unfold kas_count
  rw [KasT.kasWp_bind]
  refine jY O hc fV (fun m h1 hm hs hd => ?_) (n - 1) 1 (Nat.le_refl _) (by omega) (fun i j hij hj => by omega)
  by_cases e : m = n
  · subst e
    rw [if_pos (by simp)]
    exact q m _ fV h1 (Nat.le_refl _) hs
  · rw [if_neg (by simpa using e)]
    by_cases e1 : m > 1
    · rw [if_pos e1]
      refine hc _ _ (fV.below (by omega)) (fV.below (by omega)) _ ?_
      have := hs 0 (m - 1) (by omega) (by omega)
      rw [this]; ((try dsimp only); (try rw [if_pos rfl]))
      exact q m _ fV h1 hm hs
    · rw [if_neg e1]
      have : m = 1 := by omega
      subst this
      have c := hd (by omega)
      unfold kas_descPart
      rw [KasT.kasWp_bind]
      refine mD O hc fV (fun m h1 hm hs => ?_) (n - 2) 2 (by omega) (by omega) (fun i j hij hj => ?_)
      · rw [if_neg (by simp)]
        unfold kas_tail3
        rw [KasT.kasWp_bind]
        obtain ⟨g', s'⟩ := HZ O fV hm hs
        exact jY O hc g' (fun m' h1' hm' hs' _ => q m' _ g' h1' hm' hs') (n - m) m h1 (by omega) s'
      · have hi : i = 0 := by omega
        have hj : j = 1 := by omega
        subst hi hj
        exact c
theorem ik {p : Array Nat} (g : Gd n p) {k : Nat} (hk : k < n) (hs : Srt lt p k) {Q : Nat → Shared → Prop} (q : ∀ l, l ≤ k → (∀ i, i < l → lt (p.getD i 0) (p.getD k 0) = true) → (∀ i, l ≤ i → i < k → lt (p.getD k 0) (p.getD i 0) = true) → Q l s) :
    ∀ (f l r : Nat), r - l ≤ f → l ≤ r → r ≤ k → (∀ i, i < l → lt (p.getD i 0) (p.getD k 0) = true) → (∀ i, r ≤ i → i < k → lt (p.getD k 0) (p.getD i 0) = true) → (kas_place p k f l r).kasWp cmp Q s
  | 0, l, r, hf, hl, hr, a, b => q l (Nat.le_trans hl hr) a fun i h1 h2 => b i (Nat.le_trans (Nat.le_of_sub_eq_zero (Nat.le_zero.mp hf)) h1) h2
  | f + 1, l, r, hf, hl, hr, a, b => by
    unfold kas_place
    by_cases e : l ≥ r
    · rw [if_pos e]
      exact q l (Nat.le_trans hl hr) a fun i h1 h2 => b i (Nat.le_trans e h1) h2
    · rw [if_neg e]
      have lr : l < r := Nat.not_le.mp e
      have hh := HY lr
      generalize (l + r) / 2 = M at hh
      have hm : M < k := Nat.lt_of_lt_of_le hh.2 hr
      have hMn : M < n := Nat.lt_trans hm hk
      refine hc _ _ (g.below hk) (g.below hMn) _ ?_
      cases c : lt (p.getD k 0) (p.getD M 0) with
      | true =>
        ((try dsimp only); (try rw [if_pos rfl]))
        refine ik g hk hs q f l M (Nat.le_of_lt_succ (Nat.lt_of_lt_of_le (Nat.sub_lt_sub_right hh.1 hh.2) hf)) hh.1 (Nat.le_of_lt hm) a fun i h1 h2 => ?_
        by_cases z : i = M
        · subst z; exact c
        · exact O.tr _ _ _ (g.below hk) (g.below hMn) (g.below (Nat.lt_trans h2 hk)) c (hs _ i (Nat.lt_of_le_of_ne h1 (Ne.symm z)) h2)
      | false =>
        ((try dsimp only); (try rw [if_neg Bool.false_ne_true]))
        have c' := O.tot _ _ (g.below hk) (g.below hMn) (g.ne (i := k) (j := M) hk hMn (Nat.ne_of_gt hm)) c
        refine ik g hk hs q f (M + 1) r (Nat.le_of_lt_succ (Nat.lt_of_lt_of_le (Nat.sub_lt_sub_left lr (Nat.lt_succ_of_le hh.1)) hf)) hh.2 hr (fun i h1 => ?_) b
        by_cases z : i = M
        · subst z; exact c'
        · have hi : i < M := Nat.lt_of_le_of_ne (Nat.le_of_lt_succ h1) z
          exact O.tr _ _ _ (g.below (Nat.lt_trans hi hMn)) (g.below hMn) (g.below hk) (hs i _ hi hm) c'
theorem nY {Q : Array Nat → Shared → Prop} (q : ∀ p, Gd n p → Srt lt p n → Q p s) : ∀ (f : Nat) (p : Array Nat) (k : Nat), Gd n p → k + f = n → Srt lt p k → (kas_bin f p k).kasWp cmp Q s
  | 0, p, k, g, e, h => by
    have : k = n := e
    subst this
    exact q p g h
  | f + 1, p, k, g, e, h => by
    unfold kas_bin
    rw [KasT.kasWp_bind]
    have hk : k < n := e ▸ Nat.lt_add_of_pos_right (Nat.succ_pos f)
    refine ik O hc g hk h (fun l hl a b => ?_) k 0 k (Nat.le_refl _) (Nat.zero_le _) (Nat.le_refl _) (fun i z => absurd z (Nat.not_lt_zero _)) (fun i z z' => absurd z' (Nat.not_lt.mpr z))
    have hks : k < p.size := by rw [g.sz]; exact hk
    have at' : ∀ i, (bubble p k (k - l)).getD i 0 = if i = l then p.getD k 0 else if l < i ∧ i ≤ k then p.getD (i - 1) 0 else p.getD i 0 := fun i => by
      have := getElem?_bubble hks (k - l) (Nat.sub_le _ _) i
      rw [Nat.sub_sub_self hl] at this
      simp only [Array.getD_eq_getD_getElem?]
      rw [this]
      by_cases c1 : i = l
      · rw [if_pos c1, if_pos c1]
      · rw [if_neg c1, if_neg c1]
        by_cases c2 : l < i ∧ i ≤ k
        · rw [if_pos c2, if_pos c2]
        · rw [if_neg c2, if_neg c2]
    refine nY q f _ (k + 1) ⟨by rw [bubble_size, g.sz], (bubble_perm _ _ _).trans g.pm⟩ (by rw [Nat.add_right_comm]; exact e) fun i j hij hj => ?_
    have jk : j ≤ k := Nat.le_of_lt_succ hj
    have j1 : j - 1 < k := Nat.sub_one_lt_of_le (Nat.zero_lt_of_lt hij) jk
    rw [at' i, at' j]
    by_cases c1 : i = l
    · have lj : l < j := c1 ▸ hij
      rw [if_pos c1, if_neg (Nat.ne_of_gt lj), if_pos ⟨lj, jk⟩]
      exact b _ (Nat.le_sub_one_of_lt lj) j1
    · rw [if_neg c1]
      by_cases c2 : l < i ∧ i ≤ k
      · have lj : l < j := Nat.lt_trans c2.1 hij
        rw [if_pos c2, if_neg (Nat.ne_of_gt lj), if_pos ⟨lj, jk⟩]
        exact h _ _ (Nat.sub_lt_sub_right (Nat.zero_lt_of_lt c2.1) hij) j1
      · rw [if_neg c2]
        have il : i < l := Nat.lt_of_le_of_ne (Nat.not_lt.mp fun z => c2 ⟨z, Nat.le_trans (Nat.le_of_lt hij) jk⟩) c1
        by_cases c3 : j = l
        · rw [if_pos c3]; exact a _ il
        · rw [if_neg c3]
          by_cases c4 : l < j ∧ j ≤ k
          · rw [if_pos c4]
            exact h _ _ (Nat.lt_of_lt_of_le il (Nat.le_sub_one_of_lt c4.1)) j1
          · rw [if_neg c4]
            have jl : j < l := Nat.lt_of_le_of_ne (Nat.not_lt.mp fun z => c4 ⟨z, jk⟩) c3
            exact h _ _ hij (Nat.lt_of_lt_of_le jl hl)
theorem v6 (h2 : 2 ≤ n) {Q : Array Nat → Shared → Prop} (q : ∀ p, Gd n p → Srt lt p n → Q p s) : (kas_sort n).kasWp cmp Q s := by
  unfold kas_sort
  rw [KasT.kasWp_bind]
  refine tX O hc h2 fun m p g h1 hm hs => ?_
  by_cases e : m < n
  · rw [if_pos e]
    have : max m 1 = m := by omega
    show KasT.kasWp cmp (kas_bin (n - max m 1) p (max m 1)) Q s
    rw [this]
    exact nY O hc q (n - m) p m g (by omega) hs
  · rw [if_neg e]
    have : m = n := by omega
    subst this
    exact q p g hs
end
end Fm
set_option linter.all false
namespace Fm
def tY (x : List Int) : List (List Int) → List (List Int)
  | [] => [x]
  | y :: r => if bN x y = true then x :: y :: r else y :: tY x r
def dy : List (List Int) → List (List Int)
  | [] => []
  | x :: r => tY x (dy r)
def tZ (r : List Int) : D := .tup (r.map .int)
@[simp] def kA (l : List D) : Option (List D) := match mZ l with
  | some r => if l.length < 64 ∧ r.all (fun x => !x.isEmpty) = true ∧ r.Nodup then some ((dy r).map tZ) else none
  | none => none
@[simp] def i0 (a : EF) : LF := fun σ h => (a σ h).bind fun x h => match bP h x with
  | some l => match kA l with | some l => .ok l h | none => .bad
  | none => .bad
@[simp] def B5 : O2 := fun x y h => (oIc (fun _ j => decide (0 ≤ j)) (fun i j => i / 2 ^ j.toNat)) x y h
@[simp] def nZ : O2 := fun x y h => (oIc (fun i j => decide (0 ≤ i) && decide (j = 1)) (fun i _ => i % 2)) x y h
@[simp] def Bh : O2 := fun x y h => match x, y with
  | .tup (d :: l), .int n => if 2 ≤ n ∧ (d :: l).length * n.toNat ≤ 1000 then .ok (.tup (List.replicate n.toNat (d :: l)).flatten) h else .bad
  | _, _ => .bad
theorem kB : ∀ a, bN a a = false
  | [] => rfl
  | x :: a => by simp [bN, kB a]
theorem gw : ∀ {a b c}, bN a b = true → bN b c = true → bN a c = true
  | [], [], _, h, _ => by simp [bN] at h
  | [], _ :: _, [], _, h => by simp [bN] at h
  | [], _ :: _, _ :: _, _, _ => rfl
  | _ :: _, [], _, h, _ => by simp [bN] at h
  | _ :: _, _ :: _, [], _, h => by simp [bN] at h
  | x :: a, y :: b, z :: c, h, h' => by
    simp only [bN] at h h' ⊢
    by_cases e : x = y
    · subst e
      rw [if_pos rfl] at h
      by_cases e2 : x = z
      · subst e2
        rw [if_pos rfl] at h' ⊢
        exact gw h h'
      · rw [if_neg e2] at h' ⊢; exact h'
    · rw [if_neg e] at h
      by_cases e2 : y = z
      · subst e2
        rw [if_neg e]; exact h
      · rw [if_neg e2] at h'
        simp at h h'
        rw [if_neg (by omega)]
        simp; omega
theorem lD : ∀ {a b}, a ≠ b → bN a b = false → bN b a = true
  | [], [], h, _ => absurd rfl h
  | [], _ :: _, _, h => by simp [bN] at h
  | _ :: _, [], _, _ => rfl
  | x :: a, y :: b, h, h' => by
    simp only [bN] at h' ⊢
    by_cases e : x = y
    · subst e
      rw [if_pos rfl] at h' ⊢
      exact lD (fun z => h (by rw [z])) h'
    · rw [if_neg e] at h'
      rw [if_neg (Ne.symm e)]
      simp at h' ⊢; omega
theorem mE {a b : List Int} (h : bN a b = true) : bN b a = false := by
  cases c : bN b a with
  | false => rfl
  | true => have := gw h c; rw [kB] at this; cases this
theorem lE (x : List Int) : ∀ r, (tY x r).Perm (x :: r)
  | [] => .refl _
  | y :: r => by
    simp only [tY]
    split
    · exact .refl _
    · exact ((lE x r).cons y).trans (.swap x y r)
theorem gL : ∀ r, (dy r).Perm r
  | [] => .refl _
  | x :: r => (lE x _).trans ((gL r).cons x)
theorem n4 {x : List Int} : ∀ {r : List (List Int)}, x ∉ r → r.Pairwise (fun a b => bN a b = true) → (tY x r).Pairwise (fun a b => bN a b = true)
  | [], _, _ => by simp [tY]
  | y :: r, hx, h => by
    simp only [tY]
    have hy : ¬ x = y := fun z => hx (by simp [z])
    have hr : x ∉ r := fun z => hx (by simp [z])
    obtain ⟨h1, h2⟩ := List.pairwise_cons.mp h
    split
    · rename_i c
      refine List.pairwise_cons.mpr ⟨fun b hb => ?_, h⟩
      rcases List.mem_cons.mp hb with rfl | hb
      · exact c
      · exact gw c (h1 b hb)
    · rename_i c
      have c' := lD hy (by simpa using c)
      refine List.pairwise_cons.mpr ⟨fun b hb => ?_, n4 hr h2⟩
      rcases List.mem_cons.mp ((lE x r).mem_iff.mp hb) with rfl | hb
      · exact c'
      · exact h1 b hb
theorem i3 : ∀ {r : List (List Int)}, r.Nodup → (dy r).Pairwise (fun a b => bN a b = true)
  | [], _ => .nil
  | x :: r, h => by
    obtain ⟨h1, h2⟩ := List.nodup_cons.mp h
    exact n4 (fun z => h1 ((gL r).mem_iff.mp z)) (i3 h2)
theorem B6 {a b : List (List Int)} (p : a.Perm b) (ha : a.Pairwise (fun a b => bN a b = true)) (hb : b.Pairwise (fun a b => bN a b = true)) : a = b :=
  List.Perm.eq_of_pairwise (fun x y _ _ h h' => by have := mE h; rw [h'] at this; cases this) ha hb p
end Fm
set_option Elab.async false
set_option linter.all false
set_option maxRecDepth 100000
namespace Fm
open PySem PySem.Spec L2 PySem.W PyProof.Rows
section
variable {X : Cx} {pos p : Pos}
theorem dq.rds {K : PySem.W.Frag} {ρ : List Addr} {H : Hp} : ∀ {vs : List V} {rs : List (List Int)}, dq H vs rs → RDs K ρ H (rs.map tZ) vs
  | _, _, .nil => RDs.nil
  | _, _, .cons (a := a) (r := r) h t => by
    refine RDs.cons ?_ (dq.rds t)
    unfold tZ
    simp only [RD]
    refine ⟨a, _, rfl, h, ?_⟩
    clear h
    induction r with
    | nil => exact RDs.nil
    | cons x r ih => exact RDs.cons (by simp only [RD]) ih
theorem dq.pick {H : Hp} {vs : List V} {rs : List (List Int)} (h : dq H vs rs) : ∀ (l : List Nat), (∀ i ∈ l, i < vs.length) → dq H (l.map fun i => vs.getD i .non) (l.map fun i => rs.getD i [])
  | [], _ => .nil
  | i :: l, hl => by
    have hi : i < vs.length := hl i (by simp)
    obtain ⟨a, e, ha⟩ := h.get (i := i) (v := vs[i]) (by simp [hi])
    have t := dq.pick h l fun j hj => hl j (by simp [hj])
    have : vs.getD i .non = .ref a := by simp [List.getD, hi, e]
    simp only [List.map_cons, this]
    exact .cons ha t
theorem aP.pick {vs : List V} {us : List Value} (h : aP vs us) : ∀ (l : List Nat), (∀ i ∈ l, i < vs.length) → aP (l.map fun i => vs.getD i .non) (l.map fun i => us.getD i Value.none)
  | [], _ => .nil
  | i :: l, hl => by
    have hi : i < vs.length := hl i (by simp)
    obtain ⟨u, e, ru⟩ := h.get (i := i) (x := vs[i]) (by simp [hi])
    have t := aP.pick h l fun j hj => hl j (by simp [hj])
    simp only [List.map_cons]
    refine .cons ?_ t
    simp [List.getD, hi, e]
    exact ru
def Ia (K : PySem.W.Frag) : List V → Hp → VK → Prop := fun xs H Q => ∃ (a : Addr) (vs : List V) (rs : List (List Int)), xs = [.ref a] ∧ SqL K H a vs ∧ vs.length < 64 ∧ dq H vs rs ∧ rs.Nodup ∧ (rs.all fun x => !x.isEmpty) = true ∧ ∀ q vs', H q = none → dq H vs' (dy rs) → Q (.ref q) (upd H q (.lst vs'))
theorem yx : gp X (.builtin "sorted") (Ia X.K) := by
  intro pins s σ H xs us Q I r h
  obtain ⟨a, vs, rs, rfl, sq, h64, rv, nd, hne, q⟩ := h
  obtain ⟨u, rfl, ru⟩ := aP.one r
  cases (show u = Value.ref a from ru)
  obtain ⟨its, rvs, pl, hz⟩ := I.list sq
  have hl : s.heap.IsList a its.toArray := pl.isList
  have hlen : its.length = vs.length := rvs.length.symm
  by_cases h2 : its.length < 2
  · refine kz hl h2 fun h' n hk ho => ?_
    have hs : dy rs = rs := by
      have : rs.length < 2 := by rw [← rv.length]; omega
      match rs, this with
      | [], _ => rfl
      | [_], _ => rfl
    exact ⟨.ref (s.heap.objs.size + 1), _, I.laid (t' := s.toks) (o := .lst vs) hk (Nat.le_succ _) ⟨hz, its, n, rvs, ho⟩, rfl, q _ vs (I.hok.fresh (Nat.le_succ _)) (by rw [hs]; exact rv)⟩
  · obtain ⟨m, hm, _⟩ := id I.loc
    have N0 : News (Att.noObjs s.heap) X.env.locals s.heap (Att.ledger s.heap X.env.locals X.env.locals) := fun ⟨b, o⟩ hb => by
      obtain ⟨n1, n2, e⟩ := Att.mem_ledger.mp hb
      exact ⟨e, n1, Att.noObjs_get _ _⟩
    refine kat_sorted (Att.fr_all hm) N0 hl (by omega) (by omega) fun D e1 h' F' N' lo => ?_
    have inN : ∀ b o, b ≠ X.env.locals → s.heap.get? b = some o → (b, o) ∈ Att.ledger s.heap X.env.locals X.env.locals := fun b o hb e => Att.mem_ledger.mpr ⟨hb, hb, e⟩
    have keep' : ∀ b o, b ≠ X.env.locals → s.heap.get? b = some o → h'.get? b = some o := fun b o hb e => (N' (b, o) (List.mem_cons_of_mem _ (inN b o hb e))).1
    have nL : ∀ b u, H b = some u → b ≠ X.env.locals := fun b u e z => by rw [z, I.free] at e; cases e
    obtain ⟨fs, t1, t2, t3⟩ := nU I.hok (h' := h') (fun b o u hb e => keep' b o (nL b u hb) e) rv rvs hne
    refine kat_kind (s := { s with heap := h' }) (T := .type "int") t1 (by omega) (fun v hv => ?_) rfl ?_
    · obtain ⟨i, t, rfl⟩ := t3 v hv
      exact Looks.of_pure rfl
    · have hT : (Value.type "int" != Value.type "tuple") = true := by decide
      rw [hT]
      have hrl : rs.length = its.length := by rw [← rv.length, hlen]
      have dif : ∀ i j, i < its.length → j < its.length → i ≠ j → rs.getD i [] ≠ rs.getD j [] := fun i j hi hj hij z => by
        have e1 : rs.getD i [] = rs[i]'(by omega) := by simp [List.getD, show i < rs.length by omega]
        have e2 : rs.getD j [] = rs[j]'(by omega) := by simp [List.getD, show j < rs.length by omega]
        rw [e1, e2] at z
        exact hij ((List.getElem_inj nd).mp z)
      have O : Ord (fun i j => Fm.bN (rs.getD i []) (rs.getD j [])) its.length := ⟨fun i j _ _ h => mE h, fun i j k _ _ _ h h' => gw h h', fun i j hi hj hij h => lD (dif i j hi hj hij) h⟩
      refine v6 O (fun i j hi hj C hC => ?_) (by omega) fun pp g srt => ?_
      · unfold kas_ask
        have at' : ∀ i, i < its.length → ∃ b, its.getD i Value.none = .ref b ∧ ∃ (o : Obj) (zs : List Value) (n : Nat), h'.get? b = some o ∧ o.data = .seq zs.toArray n ∧ IntsAre zs (rs.getD i []) := fun i hi => by
          have hv : vs[i]? = some (vs[i]'(by omega)) := by simp [show i < vs.length by omega]
          obtain ⟨b, e1, e2⟩ := rv.get hv
          obtain ⟨u, hu, ru⟩ := rvs.get hv
          rw [e1] at ru
          cases (show u = Value.ref b from ru)
          obtain ⟨z, zs, r0, o, ho, hc, n, hd⟩ := I.hok b _ e2
          exact ⟨b, by simp [List.getD, hu], o, zs, n, keep' b o (nL b _ e2) ho, hd, nI r0⟩
        obtain ⟨b1, x1, o1, z1, n1, y1, d1, i1⟩ := at' i hi
        obtain ⟨b2, x2, o2, z2, n2, y2, d2, i2⟩ := at' j hj
        rw [x1, x2]
        refine kat_lt (s := { s with heap := h' }) y1 d1 y2 d2 ?_
        have := DX (prog := X.prog) (w := X.w) (A := X.A.in1.in1) (s := { s with heap := h' }) (Q := C) (rs.getD i []) (rs.getD j []) 0 i1 i2 hC
        simpa using this
      · have pmL : pp.toList.Perm (List.range its.length) := by simpa using Array.perm_iff_toList_perm.mp g.pm
        have inR : ∀ i ∈ pp.toList, i < vs.length := fun i hi => by
          have := pmL.mem_iff.mp hi
          rw [← hlen]; simpa using this
        obtain ⟨vs', hvs'⟩ : ∃ vs', vs' = pp.toList.map fun i => vs.getD i .non := ⟨_, rfl⟩
        obtain ⟨its', hits'⟩ : ∃ its', its' = pp.toList.map fun i => its.getD i Value.none := ⟨_, rfl⟩
        have rv' : dq H vs' (dy rs) := by
          have e : (pp.toList.map fun i => rs.getD i []) = dy rs := by
            refine B6 (?_ : List.Perm _ _) ?_ (i3 nd)
            · refine ((pmL.map fun i => rs.getD i []).trans ?_).trans (gL rs).symm
              have : ((List.range its.length).map fun i => rs.getD i []) = rs := by
                apply List.ext_getElem?
                intro i
                by_cases hi : i < rs.length
                · have : i < its.length := by omega
                  simp [List.getD, hi, this]
                · have : ¬ i < its.length := by omega
                  simp [hi, this]
              rw [this]
            · rw [List.pairwise_map]
              rw [List.pairwise_iff_getElem]
              intro i j hi hj hij
              have s1 := srt i j hij (by rw [← g.sz]; simpa using hj)
              have g1 : pp.getD i 0 = pp.toList[i] := by simp [Array.getD, show i < pp.size by simpa using hi]
              have g2 : pp.getD j 0 = pp.toList[j] := by simp [Array.getD, show j < pp.size by simpa using hj]
              rw [g1, g2] at s1
              exact s1
          have := rv.pick pp.toList inR
          rw [e, ← hvs'] at this
          exact this
        have rvs' : aP vs' its' := by rw [hvs', hits']; exact aP.pick rvs pp.toList inR
        have hz' : vs'.length ≤ sizeLine := by
          have l1 : vs'.length = its.length := by rw [hvs', List.length_map, pmL.length_eq, List.length_range]
          rw [l1, hlen]; exact hz
        rw [← hits']
        have hDn : ∀ q ∈ Att.ledger s.heap X.env.locals X.env.locals, q.1 ≠ D := fun q hq => Nat.ne_of_lt (lo q hq)
        refine KasFin.intro F' N' (UpdF.head hDn) fun h2 c F2 N2 => ?_
        have DL : D ≠ X.env.locals := (N' (D, _) (List.mem_cons_self ..)).2.1
        have hD2 : h2.get? D = some (PySem.W.listOf its'.toArray c) := (N2 (D, _) (List.mem_cons_self ..)).1
        have keep2 : ∀ b o, b ≠ X.env.locals → s.heap.get? b = some o → h2.get? b = some o := fun b o hb e => (N2 (b, o) (List.mem_cons_of_mem _ (inN b o hb e))).1
        have bD : ∀ b o, s.heap.get? b = some o → b ≠ D := fun b o e => by
          by_cases hb : b = X.env.locals
          · rw [hb]; exact Ne.symm DL
          · exact hDn (b, o) (inN b o hb e)
        have HD : H D = none := by
          cases e : H D with
          | none => rfl
          | some u =>
            have lt := I.hok.lt e
            have : ∃ o, s.heap.get? D = some o := by
              have ok := I.hok D u e
              exact D0 ok
            obtain ⟨o, ho⟩ := this
            exact absurd rfl (bD D o ho)
        refine ⟨.ref D, upd H D (.lst vs'), ?_, rfl, q D vs' HD rv'⟩
        suffices I2 : L2.Inv X pins σ (upd H D (.lst vs')) { s with heap := h2, gens := s.gens, drawn := s.drawn, toks := s.toks } from I2
        refine I.step (g' := s.gens) (d' := s.drawn) (t' := s.toks) (ch := []) (fun _ z => nomatch z) (fun b o hb _ _ e _ => keep2 b o hb e) (fun b o hb _ _ e _ => ⟨o.slots, keep2 b o hb e⟩) (fun b o _ e n => by rw [aD (bD b o e)]; exact n) (fun b o _ e => ?_)
          (fun b ys e => by rw [aD (aG e HD)]; exact e) (fun b o u e => by rw [aD (aG e HD)]; exact e) (fun b ps e => ⟨#[], by rw [aD (aG e HD), e]; simp⟩) (fun m' hm' => by rw [DZ hm' hm]; exact F2.ns) (fun b u e => ?_) I.bare
        · by_cases hb : b = X.env.locals
          · obtain ⟨o', _, _, ho', _⟩ := F2.ns
            rw [hb]; exact ⟨o', ho'⟩
          · exact ⟨o, keep2 b o hb e⟩
        · by_cases hb : b = D
          · subst hb
            rw [bh] at e
            cases e
            exact ⟨hz', its', c, rvs', hD2⟩
          · rw [aD hb] at e
            refine (I.hok b u e).stay (fun c v hc z => ?_) (fun c z => by rw [aD (aG z HD)]; exact z) fun c ys z => by rw [aD (aG z HD)]; exact z
            rcases hc with w | w
            · subst w; exact keep2 c v (nL c _ e) z
            · exact keep2 c v (nL c _ w) z
theorem D5 {a : Expr} {fa : EF} (hg : Gl X "sorted") (hm : X.mg "sorted" = none) (ha : ME X a fa) (hs : starEach [a] X.env = (false, eval a X.env) :: starEach [] X.env := by rfl) : MF X (.Call (.Name "sorted" p) [a] [] pos) (i0 fa) := by
  refine PE.imp (gS yx hg hm (by decide +kernel) (bG ha cD hs) (he := hs)) fun σ H Q ⟨ρ, σd, hd, rs, pp⟩ => ⟨ρ, σd, hd, rs, ?_⟩
  unfold i0 at pp
  cases e : fa σd hd with
  | exc x h' => rw [e] at pp; exact pp
  | bad => rw [e] at pp; exact pp
  | ok d hd1 =>
    rw [e] at pp
    simp only [aQ] at pp
    intro v H1 ρ1 e1 rs1 rv
    cases c : bP hd1 d with
    | none => rw [c] at pp; exact pp.elim
    | some l =>
      rw [c] at pp
      simp only at pp
      cases c2 : kA l with
      | none => rw [c2] at pp; exact pp.elim
      | some l' =>
        rw [c2] at pp
        simp only [kA] at c2
        cases c3 : mZ l with
        | none => rw [c3] at c2; cases c2
        | some r =>
          rw [c3] at c2
          simp only at c2
          split at c2
          · rename_i hc
            cases c2
            obtain ⟨q, vs, rfl, sq, rvs⟩ := gu rs1.hp rv c
            exact ⟨q, vs, r, rfl, sq, by rw [← rvs.length]; exact hc.1, nV rvs c3, hc.2.2, hc.2.1, fun q' vs' hq rv' => pp.mk e1 rs1 rv'.rds q' hq⟩
          · cases c2
end
end Fm
set_option Elab.async false
set_option linter.all false
set_option maxRecDepth 100000
namespace Fm
open PySem PySem.Spec L2 PySem.W PyProof.Rows
section
variable {X : Cx} {pos p : Pos}
theorem Ib {K : PySem.W.Frag} : Og K B5 (rI (fun _ j => 0 ≤ j) fun i j => .int (i / 2 ^ j.toNat)) := rX fun i j h => of_decide_eq_true h
theorem FN {i : Int} (h : 0 ≤ i) : Builtin.bitAnd i 1 = i % 2 := by
  unfold Builtin.bitAnd
  rw [decide_eq_true h]
  show ((i.toNat &&& 1 : Nat) : Int) = i % 2
  rw [Nat.and_one_is_mod]
  omega
theorem FO {K : PySem.W.Frag} : Og K nZ (rI0 fun i j => .int (Builtin.bitAnd i j)) := by
  intro ρ H σd hd σ d k v w Q rs rv rw' p
  cases d <;> cases k <;> first | exact p.elim | skip
  rename_i i j
  simp only [nZ, oIc] at p
  split at p
  · rename_i hc
    simp at hc
    obtain ⟨h1, rfl⟩ := hc
    simp only [RD] at rv rw'
    refine ⟨_, _, rv, rw', ?_⟩
    show Q (V.int (Builtin.bitAnd i 1)) H
    rw [FN h1]
    exact p.here rs (by simp only [rD, RD])
  · exact p.elim
theorem lF : fillsNumberSlot (.type "tuple") "mul" = pure false :=
  PySem.fillsNumberSlot_seq (id := "tuple.__mul__") (r := some (.builtin "tuple.__rmul__")) F.slot_tuple_mul.lookup (by decide +kernel) F.slot_tuple_rmul.lookup (by decide +kernel)
theorem t4 : seqRepeat? (.type "tuple") = pure (some (.builtin "tuple.__mul__")) := by
  unfold seqRepeat?
  rw [PySem.seqSlot_of (T := "tuple") (name := "__mul__") (id := "tuple.__mul__") F.slot_tuple_mul.lookup (by decide +kernel), PySem.seqSlot_of (T := "tuple") (name := "__rmul__") (id := "tuple.__rmul__") F.slot_tuple_rmul.lookup (by decide +kernel)]
  rfl
theorem yy (a : Int) (t : Tok) (l : Addr) (items : Array Value) (n : Nat) (dd : Option Addr) (sl : Array (Option Value)) :
    Meets (Builtin.«int.__rmul__» ⟨[.int a t, .ref l], []⟩) (fun _ R s => s.heap.get? l = some { cls := .type "tuple", dict := dd, data := .seq items n, slots := sl } ∧ R (.ok (.ret Value.notImplemented)) s) :=
  .of_wp fun prog w A R s h => by obtain ⟨hp, g, d, tk, os⟩ := s; obtain ⟨hl, h⟩ := h; wp_walk; exact ⟨_, rfl, h⟩
theorem B7 (l : Addr) (items : Array Value) (n : Nat) (x : Int) (u : Tok) (dd : Option Addr) (sl : Array (Option Value)) (h0 : items.isEmpty = false) (h2 : 2 ≤ x) (h3 : items.size * x.toNat ≤ 1000) :
    Meets (Builtin.«tuple.__mul__» ⟨[.ref l, .int x u], []⟩) (fun _ R s => s.heap.get? l = some { cls := .type "tuple", dict := dd, data := .seq items n, slots := sl } ∧ R (.ok (.ret (Value.ref s.heap.objs.size))) { s with heap := s.heap.push { cls := Value.type "tuple", data := Data.seq (List.foldl (fun x1 x2 => x1 ++ x2) #[] (List.replicate x.toNat items)) }, toks := s.toks }) :=
  .of_wp fun prog w A R s h => by
    obtain ⟨hp, g, d, tk, os⟩ := s; obtain ⟨hl, h⟩ := h
    have f1 := PySem.AutoSeq1.idx_int
    have c1 : (decide (x < -(2 ^ 63)) || decide (x ≥ 2 ^ 63)) = false := by
      have : x.toNat ≤ 1000 := by
        have : 1 ≤ items.size := by
          cases e : items.size with
          | zero => rw [Array.isEmpty, e] at h0; simp at h0
          | succ k => omega
        have := Nat.le_mul_of_pos_left x.toNat this
        omega
      simp; omega
    have c2 : (items.isEmpty || x == 1) = false := by rw [h0]; simp; omega
    have c3 : (decide (x ≤ 0) || items.isEmpty) = false := by rw [h0]; simp; omega
    have c5 : (items.size : Int) * x ≤ 1000 := by
      have e : ((items.size * x.toNat : Nat) : Int) = (items.size : Int) * x := by
        rw [Int.natCast_mul, Int.toNat_of_nonneg (by omega)]
      rw [← e]; omega
    have c4 : ¬ ((items.size : Int) * x > (2 ^ 63 - 1) / 8) := by omega
    have c6 : Builtin.Tuple.tupleTooMany ((items.size : Int) * x) = false := by
      unfold Builtin.Tuple.tupleTooMany
      simp [sizeLine]; omega
    have hsz : (List.foldl (fun x1 x2 => x1 ++ x2) #[] (List.replicate x.toNat items)).size ≤ sizeLine := by
      rw [PySem.AutoListH.size_joined, sizeLine_eq]
      simp only [Array.size_empty, Nat.zero_add]
      rw [Nat.mul_comm]; omega
    wp_walk using wpAny_loadPart' hl
    refine wpAny_ite_false (decide_eq_false (by rw [c1]; simp)) ?_
    wp_walk using wpAny_loadPart' hl
    refine wpAny_ite_false (decide_eq_false (by rw [c2]; simp)) ?_
    wp_walk using wpAny_loadPart' hl
    refine wpAny_ite_false (decide_eq_false (by rw [c3]; simp)) ?_
    wp_walk using wpAny_loadPart' hl
    refine wpAny_ite_false (decide_eq_false c4) ?_
    wp_walk using wpAny_loadPart' hl
    exact ⟨_, rfl, h⟩
def GU (K : PySem.W.Frag) : R2 := fun x y H Q => ∃ a k xs, x = .ref a ∧ y = .int k ∧ SqT K H a xs ∧ xs ≠ [] ∧ 2 ≤ k ∧ xs.length * k.toNat ≤ 1000 ∧ ∀ p, H p = none → Q (.ref p) (upd H p (.tup (List.replicate k.toNat xs).flatten))
theorem FP : OpR X (binaryOp .Mult) (GU X.K) := by
  intro pins s σ H x y v u Q I rx ry h
  obtain ⟨a, k, xs, rfl, rfl, ha, hx, h2, h3, q⟩ := h
  cases rx
  obtain ⟨t, rfl⟩ := ry
  obtain ⟨its, r1, p1, _⟩ := I.tuple ha
  obtain ⟨⟨cls, dd, data, sl⟩, ho, hc, n, hd⟩ := id p1
  simp only at hc hd
  subst hc hd
  have hne : its ≠ [] := fun z => hx (r1.nil_iff.mp z)
  have h0 : its.toArray.isEmpty = false := by
    cases its with
    | nil => exact absurd rfl hne
    | cons a r => simp
  have h3' : its.toArray.size * k.toNat ≤ 1000 := by rw [List.size_toArray, ← r1.length]; exact h3
  have hnew : List.foldl (fun x1 x2 => x1 ++ x2) #[] (List.replicate k.toNat its.toArray) = (List.replicate k.toNat its).flatten.toArray := by
    have := rT its k.toNat []
    rw [List.nil_append] at this
    exact this
  refine wpAny_binaryOp_repeat_ref (T := "tuple") (U := "int") (by decide) ⟨_, ho, rfl⟩ (fun s' => typeIs_int s' k t) lF F.fills_int_mul F.slot_int_rmul t4 F.slot_int_index.lookup
    (call_meets F.slot_int_rmul (typeIs_int s k t) F.entry_int_rmul (F.args_int_rmul_2 _ _) (yy k t a its.toArray n dd sl)
      ⟨ho, rfl, ⟨_, ho, rfl⟩, call_meets F.slot_tuple_mul ⟨_, ho, rfl⟩ F.entry_tuple_mul (F.args_tuple_mul_2 _ _) (B7 a its.toArray n k t dd sl h0 h2 h3') ⟨ho, ?_⟩⟩)
  rw [hnew]
  refine ⟨.ref s.heap.objs.size, _, I.laid (t' := s.toks) (o := .tup (List.replicate k.toNat xs).flatten) (fun b ob q => Heap.get?_push_of_some _ q) (Nat.le_refl _) ?_, rfl, q _ (I.hok.fresh (Nat.le_refl _))⟩
  exact ⟨by rw [Fz, sizeLine_eq, Nat.mul_comm]; omega, _, r1.rep k.toNat, IsTup.new _ _⟩
theorem RDs.rep {K : PySem.W.Frag} {ρ : List Addr} {H : Hp} {l : List D} {vs : List V} (r : RDs K ρ H l vs) : ∀ k, RDs K ρ H (List.replicate k l).flatten (List.replicate k vs).flatten
  | 0 => RDs.nil
  | k + 1 => by
    rw [List.replicate_succ, List.replicate_succ, List.flatten_cons, List.flatten_cons]
    exact RDs.append r (RDs.rep r k)
theorem FQ {K : PySem.W.Frag} : Og K Bh (GU K) := by
  intro ρ H σd hd σ d k v w Q rs rv rw' pp
  cases d <;> try exact pp.elim
  rename_i l
  cases l with
  | nil => exact pp.elim
  | cons x xs =>
    cases k <;> try exact pp.elim
    rename_i n
    simp only [Bh] at pp
    split at pp
    · rename_i hz
      simp only [RD] at rv rw'
      obtain ⟨a, vs, rfl, ha, rvs⟩ := rv
      refine ⟨a, n, vs, rfl, rw', SqT.of ha, ?_, hz.1, by rw [← rvs.length]; exact hz.2, fun q hq => ?_⟩
      · intro z; subst z; have := rvs.length; simp at this
      · have sm := bT (o := HO.tup (List.replicate n.toNat vs).flatten) hq
        exact pp.at (Ext.same sm) (rs.same sm) (by simp only [rD, RD]; exact ⟨q, _, rfl, bh, (RDs.rep rvs n.toNat).mono (Kp.same sm)⟩)
    · exact pp.elim
end
end Fm
set_option Elab.async false
set_option linter.all false
set_option maxRecDepth 100000
namespace L2
open PySem PySem.Spec PyProof.Rows
section
variable {κ : Type} [DecidableEq κ]
end
section
variable {P : Program} {w : World} {H : Hp} {h : Heap} {a : Addr}
end
section
variable {X : Cx} {pins : List (Addr × Obj)} {σ : St} {H : Hp} {s : Shared} {a : Addr} {y v : V} {u r : Value} {o : Option V} {A : Around} {E : Value → Shared → Prop}
end
section
variable {X : Cx} {pins : List (Addr × Obj)} {σ : St} {H : Hp} {s : Shared} {a : Addr} {kvs : List (Key × V)} {k : Key} {u : Value} {A : Around} {E : Value → Shared → Prop}
end
section
variable {X : Cx} {o i e value : Expr} {pos pos' tpos : Pos} {td ty tv : TE}
end
section
variable {X : Cx} {pos : Pos}
end
structure M1 (X : Cx) (o : Expr) (m : Str) (apos : Pos) (e : Expr) (cpos : Pos) : Prop where
  base : attributeBase o m X.env (eval o X.env) = eval o X.env
  few : ((backTo cpos (starEach [e] X.env)).all (fun x => !x.1) && (backToKw cpos (keywordEach [] X.env)).all (fun x => x.1.isSome)
    && decide (([e] : List Expr).length + ([] : List Keyword).length + (if ([] : List Keyword).isEmpty then 0 else 1) < 30)) = true
  line : (apos.endLine == cpos.line) = true
  trees : backTo cpos (starEach [e] X.env) = [(false, eval e X.env)]
structure M2 (X : Cx) (o : Expr) (m : Str) (apos : Pos) (e f : Expr) (cpos : Pos) : Prop where
  base : attributeBase o m X.env (eval o X.env) = eval o X.env
  few : ((backTo cpos (starEach [e, f] X.env)).all (fun x => !x.1) && (backToKw cpos (keywordEach [] X.env)).all (fun x => x.1.isSome)
    && decide (([e, f] : List Expr).length + ([] : List Keyword).length + (if ([] : List Keyword).isEmpty then 0 else 1) < 30)) = true
  line : (apos.endLine == cpos.line) = true
  trees : backTo cpos (starEach [e, f] X.env) = [(false, eval e X.env), (false, eval f X.env)]
section
variable {X : Cx} {pins : List (Addr × Obj)} {σ : St} {H : Hp} {s : Shared} {a : Addr} {y d : V} {u r : Value} {o : Option V} {A : Around} {E : Value → Shared → Prop}
end
section
variable {X : Cx} {o e f : Expr} {apos cpos : Pos} {td ty tx : TE}
end
section
variable {X : Cx} {pins : List (Addr × Obj)} {σ : St} {H : Hp} {s : Shared} {a : Addr} {kvs : List (Key × V)} {A : Around} {E : Value → Shared → Prop}
end
section
variable {X : Cx} {pins : List (Addr × Obj)} {σ : St} {H : Hp} {s : Shared} {a : Addr} {y : V} {u : Value} {A : Around} {E : Value → Shared → Prop}
end
end L2
set_option linter.all false
namespace Fm
end Fm
set_option Elab.async false
set_option linter.all false
set_option maxRecDepth 100000
namespace Fm
open PySem PySem.Spec L2 PySem.W PyProof.Rows
section
variable {K : PySem.W.Frag} {ρ : List Addr} {H : Hp} {hd : Hd}
end
section
variable {X : Cx} {pos p : Pos}
end
end Fm
set_option Elab.async false
set_option linter.all false
set_option maxRecDepth 100000
namespace Fm
open PySem PySem.Spec L2 PySem.W PyProof.Rows
section
variable {X : Cx} {pos p : Pos}
end
end Fm
set_option Elab.async false
set_option linter.all false
set_option maxRecDepth 100000
namespace Fm
open PySem PySem.Spec L2 PySem.W PyProof.Rows
section
variable {X : Cx} {pos p : Pos}
def ov : List Addr → List (List Int) → Hp → Hp
  | a :: as, r :: rs, H => upd (ov as rs H) a (.tup (r.map V.int))
  | _, _, H => H
end
end Fm
set_option linter.all false
namespace Fm
@[simp] def Kj (la : LF) (b : EF) : LF := fun σ h => (la σ h).bind fun l h => (b σ h).bind fun y h => match y with
  | .int n => if 0 ≤ n ∧ n ≤ 1000 ∧ l.length * n.toNat ≤ 1000 then .ok (List.replicate n.toNat l).flatten h else .bad
  | _ => .bad
@[simp] def FR (x i e : EF) : EF := fun σ h => (x σ h).bind fun p h => match p with
  | .ref n => match h[n]? with
    | some (.lst _) => (i σ h).bind fun j h => (e σ h).bind fun d h => match j with
      | .int k => match h[n]? with
        | some (.lst l) => if 0 ≤ k ∧ k ≤ l.length ∧ l.length < SZ then .ok .non (h.set n (.lst (l.take k.toNat ++ [d] ++ l.drop k.toNat))) else .bad
        | _ => .bad
      | _ => .bad
    | _ => .bad
  | _ => .bad
@[simp] def sf (a b : EF) : LF := fun σ h => (a σ h).bind fun x h => (b σ h).bind fun y h => match x, y with
  | .ref n, .ref m => match h[n]?, h[m]? with
    | some (.lst l), some (.lst k) => if l.length + k.length ≤ SZ then .ok (l ++ k) h else .bad
    | _, _ => .bad
  | _, _ => .bad
@[simp] def mF : O2 := fun x y h => match x, y with
  | .tup xs, .tup ys => if xs.length + ys.length ≤ SZ then .ok (.tup (xs ++ ys)) h else .bad
  | _, _ => .bad
end Fm
set_option Elab.async false
set_option linter.all false
set_option maxRecDepth 100000
namespace Fm
open PySem PySem.Spec L2 PySem.W PyProof.Rows
section
variable {X : Cx} {pos p : Pos}
theorem sh {K : PySem.W.Frag} {ρ : List Addr} {H : Hp} : ∀ {l : List D} {vs : List V} {bs : List Bool}, RDs K ρ H l vs → my l = some bs → vs = bs.map V.bl
  | [], _, is, r, e => by simp only [my] at e; cases e; simp only [RDs] at r; subst r; rfl
  | d :: l, _, is, r, e => by
    simp only [RDs] at r
    obtain ⟨v, vs, rfl, h1, h2⟩ := r
    cases d <;> simp only [my] at e <;> try (cases e; done)
    rename_i i
    cases c : my l with
    | none => rw [c] at e; cases e
    | some js =>
      rw [c] at e
      cases e
      simp only [RD] at h1
      rw [h1, sh h2 c]
      rfl
def FS : V → List V → Hp → VK → Prop := fun x vs H Q => ∃ l xs k y, x = .ref l ∧ vs = [.int k, y] ∧ H l = some (.lst xs) ∧ 0 ≤ k ∧ k ≤ xs.length ∧ xs.length < sizeLine ∧ Q .non (upd H l (.lst (xs.take k.toNat ++ [y] ++ xs.drop k.toNat)))
theorem B8 : MtM X "list.insert" FS := by
  intro pins s σ H x vs v us Q I rx rv h
  obtain ⟨l, xs, k, y, rfl, rfl, hH, k0, k1, hz, q⟩ := h
  cases rx
  obtain ⟨u, w, rfl, ru, rw'⟩ := rv.two
  obtain ⟨t, rfl⟩ := Be ru
  obtain ⟨z, its, n, r, hl, e⟩ := I.lstM hH
  have hfit : ¬ (!Builtin.List.listFitsIndex k) = true := by
    rw [fitsIndex_both (by omega) (by rw [sizeLine_eq] at hz; omega)]
    exact Bool.false_ne_true
  refine call_meets F.slot_list_insert ⟨_, e, rfl⟩ F.entry_list_insert (F.args_list_insert_3 _ _ _) (AutoSeq1.list_insert_list_int_val_1 l its.toArray n k t w hfit (by rw [List.size_toArray]; omega)) ⟨e, ?_⟩
  refine ⟨.non, _, I.lset (its' := its.take k.toNat ++ [w] ++ its.drop k.toNat) hH e ?_ (((r.take k.toNat).append (.cons rw' .nil)).append (r.drop k.toNat)) ?_, rfl, q⟩
  · have k2 : ¬ k < 0 := by omega
    have k3 : min k.toNat its.length = k.toNat := by omega
    simp only [Obj.mapSeq, List.size_toArray, if_neg k2, k3]
    congr 2
    simp
    exact List.take_of_length_le (by simp)
  · simp; omega
theorem D6 {o i e : Expr} {fo fi fe : EF} {apos cpos : Pos} (ho : ME X o fo) (hi : ME X i fi) (he : ME X e fe) (hbase : attributeBase o "insert" X.env (eval o X.env) = eval o X.env := by rfl)
    (hfew : ((backTo cpos (starEach [i, e] X.env)).all (fun x => !x.1) && (backToKw cpos (keywordEach [] X.env)).all (fun x => x.1.isSome)
      && decide (([i, e] : List Expr).length + ([] : List Keyword).length + (if ([] : List Keyword).isEmpty then 0 else 1) < 30)) = true := by rfl)
    (hline : (apos.endLine == cpos.line) = true := by rfl) (hs : starEach [i, e] X.env = (false, eval i X.env) :: starEach [e] X.env := by rfl) (hs2 : starEach [e] X.env = (false, eval e X.env) :: starEach [] X.env := by rfl) (hpl : (backTo cpos (starEach [e] X.env)).any (·.1) = false := by rfl) :
    ME X (.Call (.Attribute o "insert" apos) [i, e] [] cpos) (FR fo fi fe) := by
  refine PE.imp (A5 PySem.F.plainAttrs_list PySem.F.slot_list_insert PySem.F.type_list_insert B8 ho (bG hi (bG he cD hs2) hs) hbase hfew hline hs hpl) fun σ H Q ⟨ρ, σd, hd, rs, pp⟩ => ⟨ρ, σd, hd, rs, ?_⟩
  unfold FR at pp
  refine (br.bind (R := rD X.K) pp).imp fun v H1 ⟨ρ1, d, hd1, e1, rs1, rv, p1⟩ => ?_
  cases d <;> try exact p1.elim
  rename_i n
  simp only [rD, RD] at rv
  obtain ⟨a, ha, rfl⟩ := rv
  simp only at p1
  cases c1 : hd1[n]? with
  | none => rw [c1] at p1; exact p1.elim
  | some cell1 =>
    rw [c1] at p1
    cases cell1 with
    | dct l => exact p1.elim
    | lst l1 =>
      obtain ⟨vs, hv, _⟩ := rs1.hp.cel n _ a c1 ha
      simp only at p1
      refine ⟨.inl ⟨rfl, vs, SqL.of hv⟩, ρ1, σd, hd1, rs1, (br.bind (R := rD X.K) p1).imp fun vi H2 ⟨ρ2, k, hd2, e2, rs2, ri, p2⟩ => ?_⟩
      refine ⟨ρ2, σd, hd2, rs2, (br.bind (R := rD X.K) p2).imp fun w H3 ⟨ρ3, dv, hd3, e3, rs3, rw', p3⟩ => ?_⟩
      cases k with
      | int k =>
       simp only [rD, RD] at ri
       subst ri
       simp only at p3
       cases c : hd3[n]? with
       | none => rw [c] at p3; exact p3.elim
       | some cell =>
         rw [c] at p3
         cases cell with
         | dct l => exact p3.elim
         | lst l =>
           simp only at p3
           split at p3
           · rename_i hz
             have ha3 := e3.get (e2.get ha)
             obtain ⟨vs3, hv3, rvs3⟩ := rs3.hp.cel n _ a c ha3
             refine ⟨a, vs3, k, w, rfl, rfl, hv3, hz.1, by rw [← rvs3.length]; exact hz.2.1, ?_, ?_⟩
             · rw [← rvs3.length]; exact Nat.lt_of_lt_of_le hz.2.2 (by rw [sizeLine_eq]; decide)
             · have hn : n < hd3.length := (List.getElem?_eq_some_iff.mp c).1
               have rh := rs3.hp.write ha3 hn (RDs.append (RDs.append (RDs.take k.toNat rvs3) (RDs.cons rw' RDs.nil)) (RDs.drop k.toNat rvs3))
               have ex : Ext ρ3 H3 ρ3 (upd H3 a (.lst (vs3.take k.toNat ++ [w] ++ vs3.drop k.toNat))) := Ext.write (List.mem_of_getElem? ha3)
               exact p3.at ex (rs3.ext ex rh) (by simp only [rD, RD])
           · exact p3.elim
      | _ => exact p3.elim
theorem Bi {a b : Expr} {fa fb : EF} (ha : ME X a fa) (hb : ME X b fb) : MF X (.BinOp a .Add b pos) (sf fa fb) := by
  refine PE.imp (GL HE ha hb) fun σ H Q ⟨ρ, σd, hd, rs, pp⟩ => ⟨ρ, σd, hd, rs, ?_⟩
  unfold sf at pp
  cases e : fa σd hd with
  | exc x h' => rw [e] at pp; exact pp
  | bad => rw [e] at pp; exact pp
  | ok d hd1 =>
    rw [e] at pp
    simp only [aQ] at pp
    intro v H1 ρ1 e1 rs1 rv
    refine ⟨ρ1, σd, hd1, rs1, ?_⟩
    cases e2 : fb σd hd1 with
    | exc x h' => rw [e2] at pp; exact pp
    | bad => rw [e2] at pp; exact pp
    | ok k hd2 =>
      rw [e2] at pp
      simp only [aQ] at pp
      intro w H2 ρ2 ex2 rs2 rw'
      cases d with
      | ref n =>
        cases k with
        | ref m =>
          simp only at pp
          simp only [rD, RD] at rv rw'
          obtain ⟨a1, ha1, rfl⟩ := rv
          obtain ⟨b1, hb1, rfl⟩ := rw'
          have ha2 := ex2.get ha1
          cases c1 : hd2[n]? with
          | none => rw [c1] at pp; exact pp.elim
          | some x1 =>
            cases c2 : hd2[m]? with
            | none => rw [c1, c2] at pp; cases x1 <;> exact pp.elim
            | some x2 =>
              rw [c1, c2] at pp
              cases x1 with
              | dct _ => exact pp.elim
              | lst l =>
                cases x2 with
                | dct _ => exact pp.elim
                | lst k =>
                  simp only at pp
                  split at pp
                  · rename_i hz
                    obtain ⟨vs1, hv1, rvs1⟩ := rs2.hp.cel n _ a1 c1 ha2
                    obtain ⟨vs2, hv2, rvs2⟩ := rs2.hp.cel m _ b1 c2 hb1
                    refine ⟨a1, b1, vs1, vs2, rfl, rfl, hv1, hv2, by rw [← rvs1.length, ← rvs2.length]; exact ku hz, fun p' hp' => ?_⟩
                    exact A7.mk pp (e1.trans ex2) rs2 (RDs.append rvs1 rvs2) p' hp'
                  · exact pp.elim
        | _ => exact pp.elim
      | _ => exact pp.elim
theorem v7 (l b : Addr) (items items2 : Array Value) (n n2 : Nat) (dd dd2 : Option Addr) (sl sl2 : Array (Option Value)) (hc0 : items.isEmpty = true) :
    Meets (Builtin.«tuple.__add__» ⟨[.ref l, .ref b], []⟩) (fun _ R s => s.heap.get? l = some { cls := .type "tuple", dict := dd, data := .seq items n, slots := sl } ∧ s.heap.get? b = some { cls := .type "tuple", dict := dd2, data := .seq items2 n2, slots := sl2 } ∧ R (.ok (.ret (Value.ref b))) s) :=
  .of_wp fun prog w A R s h => by obtain ⟨hp, g, d, tk, os⟩ := s; obtain ⟨hl, hb, h⟩ := h; have f1 := PySem.AutoSeq1.idx_int; have f2 := PySem.AutoSeq1.sub_tuple_tuple; wp_walk using wpAny_loadPart' hl, wpAny_loadPart' hb; exact ⟨_, rfl, h⟩
def D7 (K : PySem.W.Frag) : R2 := fun x y H Q => ∃ a b ys, x = .ref a ∧ y = .ref b ∧ SqT K H a [] ∧ SqT K H b ys ∧ Q (.ref b) H
theorem FT : OpR X (binaryOp .Add) (D7 X.K) := by
  intro pins s σ H x y v u Q I rx ry h
  obtain ⟨a, b, ys, rfl, rfl, ha, hb, q⟩ := h
  cases rx
  cases ry
  obtain ⟨its, r1, p1, _⟩ := I.tuple ha
  obtain ⟨its2, r2, p2, _⟩ := I.tuple hb
  cases r1
  obtain ⟨⟨cls, dd, data, sl⟩, ho, hc, n, hd⟩ := id p1
  obtain ⟨⟨cls2, dd2, data2, sl2⟩, ho2, hc2, n2, hd2⟩ := id p2
  simp only at hc hd hc2 hd2
  subst hc hd hc2 hd2
  exact concat_meets ⟨_, ho, rfl⟩ ⟨_, ho2, rfl⟩ noFill_tuple_add seq_tuple_add PySem.F.slot_tuple_add PySem.F.entry_tuple_add (PySem.F.args_tuple_add_2 _ _)
    (v7 a b _ its2.toArray n n2 dd dd2 sl sl2 rfl) ⟨ho, ho2, ⟨.ref b, H, I, rfl, q⟩⟩
theorem Bj : OpR X (binaryOp .Add) (fun x y H Q => D7 X.K x y H Q ∨ vN X.K x y H Q) := FT.or A2
theorem Bk {K : PySem.W.Frag} : Og K mF (fun x y H Q => D7 K x y H Q ∨ vN K x y H Q) := by
  intro ρ H σd hd σ d k v w Q rs rv rw' pp
  cases d with
  | tup xs =>
    cases k with
    | tup ys =>
      simp only [mF] at pp
      split at pp
      · rename_i hz
        simp only [RD] at rv
        obtain ⟨a, vs, rfl, ha, rvs⟩ := rv
        have rw2 := rw'
        simp only [RD] at rw'
        obtain ⟨b, ws, rfl, hb, rws⟩ := rw'
        cases xs with
        | nil =>
          simp only [RDs] at rvs
          subst rvs
          exact .inl ⟨a, b, ws, rfl, rfl, SqT.of ha, SqT.of hb, pp.here rs (by simpa using rw2)⟩
        | cons x xs =>
          refine .inr ⟨a, b, vs, ws, rfl, rfl, SqT.of ha, SqT.of hb, ?_, ?_, fun z => ?_, fun _ q hq => ?_⟩
          · intro z; subst z; have := rvs.length; simp at this
          · rw [← rvs.length, ← rws.length]; exact ku hz
          · subst z
            have hy : ys = [] := by have := rws.length; simpa using this
            subst hy
            exact pp.here rs (by simp only [rD, RD]; exact ⟨a, vs, rfl, ha, by simpa using rvs⟩)
          · have sm := bT (o := HO.tup (vs ++ ws)) hq
            exact pp.at (Ext.same sm) (rs.same sm) (by simp only [rD, RD]; exact ⟨q, _, rfl, bh, (RDs.append rvs rws).mono (Kp.same sm)⟩)
      · exact pp.elim
    | _ => exact pp.elim
  | _ => exact pp.elim
end
end Fm
set_option linter.all false
namespace Fm
@[simp] def Ic : O2 := fun x y h => (oIc (fun i j => decide (i = 1) && (decide (0 ≤ j) && decide (j ≤ 1000))) (fun i j => i * 2 ^ j.toNat)) x y h
noncomputable section
open Classical
def pO (G : Hd → Prop) (tg : GF) (b : SF) : List D → SF
  | [], σ, h => if G h then .nx σ h else .bad
  | x :: xs, σ, h => if G h then match tg x σ with
      | some σ => match b σ h with
        | .nx σ h => pO G tg b xs σ h
        | .ct σ h => pO G tg b xs σ h
        | .bk σ h => .nx σ h
        | r => r
      | none => .bad
    else .bad
def dr (l : List D) : List D := (List.range l.length).zip l |>.map fun p => .tup [.int (p.1 : Nat), p.2]
@[simp] def wa (a : EF) (tg : GF) (b : SF) : SF := fun σ h => match a σ h with
  | .ok (.ref n) h => match h[n]? with
    | some (.lst l) => pO (fun h => h[n]? = some (.lst l)) tg b (dr l) σ h
    | _ => .bad
  | .ok _ _ => .bad
  | .exc x h => .exc x σ h
  | .bad => .bad
end
theorem si {G : Hd → Prop} {tg : GF} {b : SF} (P : Nat → Sd → Hd → Prop) (hh : ∀ i σ h, P i σ h → G h) :
    ∀ {xs : List D} {k : Nat} {σ : Sd} {h : Hd}, (∀ (i : Nat) x σ h, xs[i]? = some x → P (k + i) σ h → ∃ σ', tg x σ = some σ' ∧ ∃ σ'' h'', b σ' h = .nx σ'' h'' ∧ P (k + i + 1) σ'' h'') → P k σ h →
      ∃ σ' h', pO G tg b xs σ h = .nx σ' h' ∧ P (k + xs.length) σ' h'
  | [], k, σ, h, _, p => ⟨σ, h, by simp [pO, hh _ _ _ p], by simpa using p⟩
  | x :: xs, k, σ, h, st, p => by
    obtain ⟨σ', h1, σ2, h2, h3, h4⟩ := st 0 x σ h (by simp) (by simpa using p)
    have st' : ∀ (i : Nat) y σ h, xs[i]? = some y → P (k + 1 + i) σ h → ∃ σ', tg y σ = some σ' ∧ ∃ σ'' h'', b σ' h = .nx σ'' h'' ∧ P (k + 1 + i + 1) σ'' h'' := fun i y σ h e q => by
      have e1 : k + 1 + i = k + (i + 1) := by omega
      rw [e1] at q ⊢
      exact st (i + 1) y σ h (by simpa using e) q
    obtain ⟨σ3, h5, h6, h7⟩ := si P hh st' (by simpa using h4)
    refine ⟨σ3, h5, ?_, ?_⟩
    · simp [pO, hh _ _ _ p, h1, h3, h6]
    · have e1 : k + (x :: xs).length = k + 1 + xs.length := by simp; omega
      rw [e1]; exact h7
end Fm
set_option Elab.async false
set_option linter.all false
set_option maxRecDepth 100000
namespace Fm
open PySem PySem.Spec L2
open PyProof.Rows (Call_)
section
variable {prog : Program} {w : World} {A : Around} {E : Value → Shared → Prop} {s : Shared} {z TI TO i1 i2 l1 l2 : Addr} {k : Nat} {xs ys : Array Value} {a b : Value}
end
section
variable {prog : Program} {w : World} {A : Around} {E : Value → Shared → Prop} {s : Shared}
end
section
variable {X : Cx} {pos p tp : Pos} {elts : List Expr} {tk : Nat}
end
end Fm
set_option Elab.async false
set_option linter.all false
set_option maxRecDepth 100000
namespace Fm
open PySem PySem.Spec L2 PySem.W PyProof.Rows
section
variable {X : Cx} {pos p : Pos}
theorem Id {K : PySem.W.Frag} : Og K Ic (rI Fi fun i j => .int (i * 2 ^ j.toNat)) := rX fun i j h => by
  simp only [Bool.and_eq_true, decide_eq_true_eq] at h
  obtain ⟨rfl, h1, h2⟩ := h
  exact ⟨h1, by omega, by decide⟩
end
section
variable {prog : Program} {w : World} {A : Around} {E : Value → Shared → Prop} {s : Shared}
end
section
variable {X : Cx} {pos p : Pos}
end
end Fm
set_option Elab.async false
set_option linter.all false
set_option maxRecDepth 100000
namespace Fm
open PySem PySem.Spec L2
open AutoSeq1 (wpAny_loadPart')
open PyProof.Rows (Call_)
def ItL (K : PySem.W.Frag) (a : Addr) : It :=
  ⟨fun i H => ∃ xs x, SqL K H a xs ∧ xs[i]? = some x, fun i H x H' => ∃ q v, x = .ref q ∧ H q = none ∧ H' = upd H q (.tup [.int (i : Nat), v]) ∧ ∀ xs, SqL K H a xs → xs[i]? = some v, fun i H => ∃ xs, SqL K H a xs ∧ xs.length = i⟩
theorem yz {P : Program} {w : World} {K : PySem.W.Frag} {elts : List Expr} {k : Nat} {pos : Pos} (e it a : Addr) : ya P w K (.Tuple elts k pos) (ItL K a) [e, it] e (fun i h => (∃ old, IsEnum h e it (i : Nat) old) ∧ h.IsListIter it a i) where
  mem := by simp
  obj := fun i h st b hb => by
    obtain ⟨⟨old, he⟩, o, ho, hc, hd⟩ := st
    rcases List.mem_cons.mp hb with rfl | hb
    · exact ⟨_, he, fun v z => by
        have z' : Data.fields _ = Data.cell v := z
        cases z'⟩
    · have : b = it := by simpa using hb
      subst this
      exact ⟨o, ho, fun v z => by rw [hd] at z; cases z⟩
  keep := fun i h h' st kk => by
    obtain ⟨⟨old, he⟩, st⟩ := st
    exact ⟨⟨old, kk e (by simp) _ he⟩, st.at fun o x => kk it (by simp) o x⟩
  item := by
    intro X hP hw hK hc i pins s σ H E I hf st hg
    subst hP hw hK
    obtain ⟨⟨old, he⟩, hit⟩ := st
    obtain ⟨xs, x, hq, hx⟩ := hg
    obtain ⟨its, rv, p, hz⟩ := I.list hq
    have ht : s.heap.IsList a its.toArray := p.isList
    obtain ⟨oi, hoi, hci, hdi⟩ := id hit
    obtain ⟨oa, hoa, hca, na, hda⟩ := id ht
    have hei : e ≠ it := fun z => by
      subst z
      have he' : s.heap.get? e = _ := he
      rw [hoi] at he'; cases he'; exact vY hci (by decide)
    have hea : e ≠ a := fun z => by
      subst z
      have he' : s.heap.get? e = _ := he
      rw [hoa] at he'; cases he'; exact vY hca (by decide)
    have hai : a ≠ it := fun z => by
      subst z
      rw [hoi] at hoa; cases hoa; rw [hci] at hca; exact vY hca (by decide)
    obtain ⟨e0, e1, e2, e3, e4, e5⟩ := hf e (by simp)
    obtain ⟨f0, f1, f2, f3, f4, f5⟩ := hf it (by simp)
    have hlt : i < its.toArray.size := by
      have := (List.getElem?_eq_some_iff.mp hx).1
      have hl := rv.length
      simp; omega
    refine wpAny_pyNext_enum_itemD (Draws.list (prog := X.prog) (w := X.w) (A := X.A.in1) (I.ok.hd hc) it a hai its.toArray) he ⟨hit, ht⟩ hlt hei (by simp; exact ⟨hei, hea⟩) fun y h' tk hy heo hst' htup hsz hk => ?_
    refine ⟨_, rfl, wpAny_letOwnedTupleGo_enum heo fun h2 he2 hs2 => ?_⟩
    replace hs2 : Heap.SameBut e h' h2 := hs2
    obtain ⟨u, hu, ru⟩ := rv.get hx
    have hyu : y = u := by
      have : its.toArray[i]? = some u := by simpa using hu
      rw [hy] at this; exact Option.some.inj this
    subst hyu
    have elt : e < s.heap.objs.size := Heap.lt_size he
    have ilt : it < s.heap.objs.size := Heap.lt_size hoi
    have hN : H s.heap.objs.size = none := I.hok.fresh (Nat.le_refl _)
    have keep : ∀ b o, b ≠ e → b ≠ it → s.heap.get? b = some o → h2.get? b = some o := fun b o b1 b2 q => (hs2.2 b b1).trans (hk b o b1 b2 q)
    have htup2 : h2.get? s.heap.objs.size = some { cls := .type "tuple", data := .seq #[.int i tk, y] } := (hs2.2 _ (Nat.ne_of_gt elt)).trans htup
    have nch : ∀ b, b ∉ ([e, it] : List Addr) → b ≠ e ∧ b ≠ it := fun b hb => by simpa using hb
    refine ⟨.ref s.heap.objs.size, upd H s.heap.objs.size (.tup [.int (i : Nat), x]), ?_, rfl, ⟨_, x, rfl, hN, rfl, fun ys hys => by rw [I.list_inj hys hq]; exact hx⟩, ⟨⟨_, by simpa using he2⟩, hst'.1.extBut hs2.extBut (Ne.symm hei)⟩, fun b hb => ?_⟩
    · suffices I2 : L2.Inv X pins σ (upd H s.heap.objs.size (.tup [.int (i : Nat), x])) { s with heap := h2, gens := s.gens, drawn := s.drawn, toks := tk + 1 } from I2
      refine I.step (g' := s.gens) (d' := s.drawn) (t' := tk + 1) (ch := [e, it]) (fun b hb => ?_) (fun b o _ _ hb q _ => keep b o (nch b hb).1 (nch b hb).2 q) (fun b o _ _ hb q _ => ⟨o.slots, keep b o (nch b hb).1 (nch b hb).2 q⟩) (fun b o _ q n => ?_) (fun b o hb q => ⟨o, keep b o (nch b hb).1 (nch b hb).2 q⟩)
        (fun b ys q => ?_) (fun b o u q => ?_) (fun b ps q => ⟨#[], ?_⟩) (fun m hm => ?_) (fun b u q => ?_) I.bare
      · rcases List.mem_cons.mp hb with rfl | hb
        · exact ⟨e3, e1, e4, e5⟩
        · have : b = it := by simpa using hb
          subst this
          exact ⟨f3, f1, f4, f5⟩
      · rw [aD (Nat.ne_of_lt (Heap.lt_size q))]; exact n
      · rw [aD (aG q hN)]; exact q
      · rw [aD (aG q hN)]; exact q
      · rw [aD (aG q hN), q]; simp
      · obtain ⟨o, es, ep, ho, r⟩ := hm
        exact ⟨o, es, ep, keep _ o (Ne.symm e1) (Ne.symm f1) ho, r⟩
      · by_cases hb : b = s.heap.objs.size
        · subst hb
          rw [bh] at q
          cases q
          exact ⟨by show 2 ≤ sizeLine; rw [sizeLine_eq]; decide, [.int i tk, y], .cons ⟨tk, rfl⟩ (.cons ru .nil), _, htup2, rfl, _, rfl⟩
        · rw [aD hb] at q
          have ne1 : ∀ c v, H c = some v → c ≠ e := fun c v z w => by rw [w, e0] at z; cases z
          have ne2 : ∀ c v, H c = some v → c ≠ it := fun c v z w => by rw [w, f0] at z; cases z
          refine (I.hok b u q).stay (fun c v hc' z => ?_) (fun c z => by rw [aD (aG z hN)]; exact z) fun c ys z => by rw [aD (aG z hN)]; exact z
          rcases hc' with w | w
          · subst w; exact keep c v (ne1 c _ q) (ne2 c _ q) z
          · exact keep c v (ne1 c _ w) (ne2 c _ w) z
    · have : b ≠ s.heap.objs.size := by
        rcases List.mem_cons.mp hb with rfl | hb
        · exact Nat.ne_of_lt elt
        · have : b = it := by simpa using hb
          subst this
          exact Nat.ne_of_lt ilt
      rw [aD this]
      exact (hf b hb).1
  done := by
    intro X hP hw hK hc i pins s σ H E I hf st hg
    subst hP hw hK
    obtain ⟨⟨old, he⟩, hit⟩ := st
    obtain ⟨xs, hq, hx⟩ := hg
    obtain ⟨its, rv, p, hz⟩ := I.list hq
    have ht : s.heap.IsList a its.toArray := p.isList
    obtain ⟨oi, hoi, hci, hdi⟩ := id hit
    obtain ⟨oa, hoa, hca, na, hda⟩ := id ht
    have hai : a ≠ it := fun z => by
      subst z
      rw [hoi] at hoa; cases hoa; rw [hci] at hca; exact vY hca (by decide)
    obtain ⟨f0, f1, f2, f3, f4, f5⟩ := hf it (by simp)
    have hsz : its.toArray.size = i := by have := rv.length; simp; omega
    refine wpAny_pyNext_enum_endD (Draws.list (prog := X.prog) (w := X.w) (A := X.A.in1) (I.ok.hd hc) it a hai its.toArray) he ⟨by rw [hsz]; exact hit, ht⟩ fun h' hx' => ⟨rfl, I.turned (t' := s.toks) (fun b o hb e => hx' b o hb e) f0 f1 f3 f4 f5⟩
  self := fun _ _ _ _ _ st h => by
    obtain ⟨⟨old, he⟩, _⟩ := st
    exact wpAny_pyIter_enum he h
section
variable {X : Cx} {pos p tp : Pos} {elts : List Expr} {tk : Nat}
def Ka (K : PySem.W.Frag) (ta : TE) : TI := fun σ H R => ta σ H fun x H1 => ∃ a xs, x = .ref a ∧ SqL K H1 a xs ∧ (xs.length ≤ sizeLine → R (ItL K a) H1)
theorem D8 {a : Expr} {ta : TE} (hg : Gl X "enumerate") (hm : X.mg "enumerate" = none) (ha : PE X a ta) (hs : starEach [a] X.env = [(false, eval a X.env)] := by rfl) : PI X (.Tuple elts tk tp) (.Call (.Name "enumerate" p) [a] [] pos) (Ka X.K ta) := by
  intro pins s σ H R I h
  have hpa := bG ha cD hs
  refine Call_ (iT I hg hm PyProof.Rows.boot_enumerate (PyProof.Rows.callWith_type1 (thn (hpa pos pins s σ H (fun vs H1 => ∃ a xs, vs = [.ref a] ∧ SqL X.K H1 a xs ∧ (xs.length ≤ sizeLine → R (ItL X.K a) H1)) I ?_) fun us s1 ⟨vs, H1, I1, r1, q1⟩ => ?_) hs rfl))
  · show ta σ H fun x H1 => _
    have key : ∀ (x : V) (H1 : Hp), (∃ a xs, x = .ref a ∧ SqL X.K H1 a xs ∧ (xs.length ≤ sizeLine → R (ItL X.K a) H1)) = (∃ a xs, [x] = [.ref a] ∧ SqL X.K H1 a xs ∧ (xs.length ≤ sizeLine → R (ItL X.K a) H1)) := fun x H1 => by simp
    have h' : ta σ H fun x H1 => ∃ a xs, x = .ref a ∧ SqL X.K H1 a xs ∧ (xs.length ≤ sizeLine → R (ItL X.K a) H1) := h
    simp only [key] at h'
    exact h'
  · obtain ⟨a, xs, e, hq, q⟩ := q1
    subst e
    obtain ⟨u, rfl, ru⟩ := aP.one r1
    cases (show u = Value.ref a from ru)
    obtain ⟨its, rv, pt, hz⟩ := I1.list hq
    refine call_enumerate_list (show s1.heap.IsList a its.toArray from pt.isList) fun h' he hit hsz hk => ?_
    refine wpAny_pyIter_enum (s := { s1 with heap := h' }) he ?_
    have I2 : Inv X pins σ H1 { s1 with heap := h' } := I1.kept (t' := s1.toks) hk
    refine ⟨s1.heap.objs.size + 1, [s1.heap.objs.size + 1, s1.heap.objs.size], _, _, H1, rfl, I2, yz (s1.heap.objs.size + 1) s1.heap.objs.size a, ⟨⟨_, by simpa using he⟩, hit⟩, fun b hb => ?_, q hz⟩
    have hb' : s1.heap.objs.size ≤ b := by
      rcases List.mem_cons.mp hb with e | hb
      · rw [e]; exact Nat.le_succ _
      · have : b = s1.heap.objs.size := by simpa using hb
        rw [this]; exact Nat.le_refl _
    exact I1.fpOk hb' (I1.hok.fresh hb')
theorem yA {K : PySem.W.Frag} {ρ : List Addr} {H : Hp} {n : Nat} {q : Addr} {l : List D} (hq : ρ[n]? = some q) (hz : (dr l).length ≤ sizeLine) : vW K ρ H (ItL K q) (dr l) (fun h => h[n]? = some (.lst l)) where
  go := fun ρ' H' hd' i d ex rh hh hi => by
    have hq' := ex.get hq
    obtain ⟨vs, hv, rvs⟩ := rh.cel n _ q hh hq'
    unfold dr at hi
    obtain ⟨hil, hi2⟩ := List.getElem?_eq_some_iff.mp hi
    have hl : i < l.length := by simpa using hil
    have hd : d = .tup [.int (i : Nat), l[i]] := by rw [← hi2]; simp
    subst hd
    obtain ⟨v, hvi, rd⟩ := rvs.get (i := i) (d := l[i]) (by simp [hl])
    have sq : SqL K H' q vs := SqL.of hv
    refine ⟨⟨vs, v, sq, hvi⟩, fun x H2 y => ?_⟩
    obtain ⟨q2, v2, rfl, hn, rfl, y⟩ := y
    have := y vs sq
    rw [hvi] at this
    cases this
    have sm := bT (o := HO.tup [.int (i : Nat), v]) hn
    refine ⟨sm, ?_⟩
    simp only [RD]
    exact ⟨q2, _, rfl, bh, RDs.cons (by simp only [RD]) (RDs.cons (rd.mono (Kp.same sm)) RDs.nil)⟩
  stop := fun ρ' H' hd' ex rh hh => by
    have hq' := ex.get hq
    obtain ⟨vs, hv, rvs⟩ := rh.cel n _ q hh hq'
    exact ⟨vs, SqL.of hv, by rw [← rvs.length]; simp [dr]⟩
  sz := hz
def Bl (K : PySem.W.Frag) (ρ : List Addr) (H : Hp) (σd : Sd) (σ : St) (r : Res D) (R : It → Hp → Prop) : Prop := match r with
  | .ok (.ref n) hd' => match hd'[n]? with
    | some (.lst l) => ∀ J H' ρ', Ext ρ H ρ' H' → RS K ρ' H' σd hd' σ → vW K ρ' H' J (dr l) (fun h => h[n]? = some (.lst l)) → R J H'
    | _ => False
  | _ => False
def Jw (K : PySem.W.Frag) (f : EF) : TI := fun σ H R => ∃ ρ σd hd, RS K ρ H σd hd σ ∧ Bl K ρ H σd σ (f σd hd) R
def MIE (X : Cx) (tg e : Expr) (f : EF) : Prop := PI X tg e (Jw X.K f)
theorem wb {a : Expr} {f : EF} (hg : Gl X "enumerate") (hm : X.mg "enumerate" = none) (ha : ME X a f) (hs : starEach [a] X.env = [(false, eval a X.env)] := by rfl) : MIE X (.Tuple elts tk tp) (.Call (.Name "enumerate" p) [a] [] pos) f := by
  refine PI.imp (D8 hg hm ha hs) fun σ H R ⟨ρ, σd, hd, rs, pp⟩ => ⟨ρ, σd, hd, rs, ?_⟩
  unfold Bl at pp
  cases e : f σd hd with
  | exc x h1 => rw [e] at pp; exact pp
  | bad => rw [e] at pp; exact pp
  | ok d hd1 =>
    rw [e] at pp
    intro v H1 ρ1 ex1 rs1 rv
    cases d <;> try exact pp.elim
    rename_i n
    cases c1 : hd1[n]? with
    | none => simp only [c1] at pp
    | some cell =>
      simp only [c1] at pp
      cases cell with
      | dct l => exact pp.elim
      | lst l =>
        simp only at pp
        simp only [rD, RD] at rv
        obtain ⟨q, hq, rfl⟩ := rv
        obtain ⟨vs, hv, rvs⟩ := rs1.hp.cel n _ q c1 hq
        exact ⟨q, vs, rfl, SqL.of hv, fun hz => pp _ H1 ρ1 ex1 rs1 (yA hq (by rw [show (dr l).length = vs.length by rw [← rvs.length]; simp [dr]]; exact hz))⟩
end
section
variable {X : Cx} {pos : Pos} {tg : Expr}
theorem FU {iter : Expr} {body : List Stmt} {f : EF} {g : GF} {b : SF} (hp : PassesOwn (model X.prog X.w) X.A X.env X.xe) (hc : X.calm = true) (hi : MIE X tg iter f) (hg : MG X tg g) (hb : MSs X body b)
    (hs : ∀ x, foldedSetIterable iter X.env x = pure x := by intro _; rfl) : MS X (.For tg iter body [] pos) (wa f g b) := by
  refine PS.imp (yd hp hc hi hg hb hs) fun En σ H ⟨ρ, σd, hd, rs, p⟩ => ⟨ρ, σd, hd, rs, ?_⟩
  unfold wa at p
  unfold Bl
  cases e : f σd hd with
  | exc x h' => rw [e] at p; exact p
  | bad => rw [e] at p; exact p
  | ok d hd1 =>
    rw [e] at p
    cases d <;> try exact p.elim
    rename_i n
    simp only at p ⊢
    cases c1 : hd1[n]? with
    | none => simp only [c1] at p; exact p.elim
    | some cell =>
      simp only [c1] at p ⊢
      cases cell with
      | dct l => exact p.elim
      | lst l0 =>
        simp only at p ⊢
        intro J H1 ρ1 ex1 rs1 wk
        generalize hG : (fun h : Hd => h[n]? = some (.lst l0)) = G at p wk
        generalize dr l0 = l at p wk
        refine ⟨fun i m σ' H' => ∃ ρ' σd' hd', Ext ρ1 H1 ρ' H' ∧ RS X.K ρ' H' σd' hd' σ' ∧ i ≤ l.length ∧ m = l.length - i ∧ bp X.K ρ' H' (pO G g b (l.drop i) σd' hd') En,
          ⟨l.length, ρ1, σd, hd1, Ext.refl, rs1, Nat.zero_le _, by simp, by simpa using bp.ext ex1 p⟩, ?_⟩
        rintro i m σ' H' ⟨ρ', σd', hd', ex, rs', hil, rfl, pp⟩
        by_cases hlt : i < l.length
        · have hdi : l[i]? = some l[i] := by simp [hlt]
          rw [List.drop_eq_getElem_cons hlt] at pp
          unfold pO at pp
          by_cases hh : G hd'
          · rw [if_pos hh] at pp
            obtain ⟨go, yl⟩ := wk.go ρ' H' hd' i _ ex rs'.hp hh hdi
            refine .inr ⟨go, fun σ2 H2 => ∃ ρ2 σd2 hd2, Ext ρ1 H1 ρ2 H2 ∧ RS X.K ρ2 H2 σd2 hd2 σ2 ∧ bp X.K ρ2 H2 (pO G g b (l.drop (i + 1)) σd2 hd2) En,
              fun σ2 H2 ⟨ρ2, σd2, hd2, a1, a2, a3⟩ => ⟨l.length - (i + 1), by omega, ρ2, σd2, hd2, a1, a2, hlt, rfl, a3⟩, fun x H2 y => ?_⟩
            obtain ⟨sm, rx⟩ := yl x H2 y
            cases c : g l[i] σd' with
            | none => rw [c] at pp; exact pp.elim
            | some σd2 =>
              rw [c] at pp
              simp only at pp
              refine ⟨ρ', σd', hd', l[i], σd2, rs'.same sm, rx, c, fun σ2 rs2 => ⟨ρ', σd2, hd', rs2, ?_⟩⟩
              have e12 : Ext ρ' H' ρ' H2 := Ext.same sm
              cases c2 : b σd2 hd' with
              | nx σ3 h3 => rw [c2] at pp; exact fun σ4 H4 ρ4 ex4 rs4 => ⟨ρ4, σ3, h3, ex.trans (e12.trans ex4), rs4, bp.ext (e12.trans ex4) pp⟩
              | ct σ3 h3 => rw [c2] at pp; exact fun σ4 H4 ρ4 ex4 rs4 => ⟨ρ4, σ3, h3, ex.trans (e12.trans ex4), rs4, bp.ext (e12.trans ex4) pp⟩
              | bk σ3 h3 => rw [c2] at pp; exact fun σ4 H4 ρ4 ex4 rs4 => pp σ4 H4 ρ4 (e12.trans ex4) rs4
              | rt d h3 => rw [c2] at pp; exact fun v H4 ρ4 ex4 rs4 rv => pp v H4 ρ4 (e12.trans ex4) rs4 rv
              | exc x σ3 h3 => rw [c2] at pp; exact pp
              | bad => rw [c2] at pp; exact pp
          · rw [if_neg hh] at pp; exact pp.elim
        · have e0 : i = l.length := by omega
          subst e0
          rw [List.drop_length] at pp
          unfold pO at pp
          by_cases hh : G hd'
          · rw [if_pos hh] at pp
            exact .inl ⟨wk.stop ρ' H' hd' ex rs'.hp hh, pp σ' H' ρ' Ext.refl rs'⟩
          · rw [if_neg hh] at pp; exact pp.elim
end
end Fm
set_option linter.all false
namespace Fm
@[simp] def D9 (a : EF) : LF := fun σ h => (a σ h).bind fun x h => match x with
  | .int n => if 0 ≤ n ∧ n ≤ 1000 then .ok ((List.range n.toNat).map fun k : Nat => D.int k) h else .bad
  | _ => .bad
end Fm
set_option Elab.async false
set_option linter.all false
set_option maxRecDepth 100000
namespace Fm
open PySem PySem.Spec L2
open PyProof.Rows (Call_)
section
variable {X : Cx} {pos p p2 pos2 : Pos}
theorem Ea {a : Expr} {f : EF} (hc : X.calm = true) (hg : Gl X "list") (hm : X.mg "list" = none) (hg2 : Gl X "range") (hm2 : X.mg "range" = none) (ha : ME X a f)
    (hs : starEach [.Call (.Name "range" p2) [a] [] pos2] X.env = (false, eval (.Call (.Name "range" p2) [a] [] pos2) X.env) :: starEach [] X.env := by rfl)
    (hs2 : starEach [a] X.env = (false, eval a X.env) :: starEach [] X.env := by rfl) :
    MF X (.Call (.Name "list" p) [.Call (.Name "range" p2) [a] [] pos2] [] pos) (D9 f) := by
  intro pins s σ H Q I ⟨ρ, σd, hd, rs, pp⟩
  unfold D9 at pp
  cases e : f σd hd with
  | exc x h' => rw [e] at pp; exact pp.elim
  | bad => rw [e] at pp; exact pp.elim
  | ok d hd1 =>
    rw [e] at pp
    simp only [aQ] at pp
    cases d <;> try exact pp.elim
    rename_i n
    simp only at pp
    split at pp
    · rename_i hn
      refine Call_ (iT I hg hm PyProof.Rows.boot_list (PyProof.Rows.callWith_type1 ?_ hs rfl))
      rw [hs]
      show wpAny _ _ (spliced ((false, eval (.Call (.Name "range" p2) [a] [] pos2) X.env) :: backTo pos (starEach [] X.env))) _ _ s
      refine Calls.spliced_cons ?_
      have hpa := bG ha cD hs2
      refine Call_ (iT I hg2 hm2 PyProof.Rows.boot_range (PyProof.Rows.callWith_type1 (thn (hpa pos2 pins s σ H (fun vs H1 => vs = [.int n] ∧ ∃ ρ1, Ext ρ H ρ1 H1 ∧ RS X.K ρ1 H1 σd hd1 σ) I ⟨ρ, σd, hd, rs, by
        rw [e]
        exact fun v H1 ρ1 ex rs' rd => by
          simp only [rD, RD] at rd
          subst rd
          exact ⟨rfl, ρ1, ex, rs'⟩⟩) fun us s1 ⟨vs, H1, I1, r1, q1, ρ1, ex1, rs1⟩ => ?_) hs2 rfl))
      subst q1
      cases r1 with
      | cons r rr =>
        cases rr
        obtain ⟨t, rfl⟩ := r
        refine call_range_1 ?_
        refine Calls.spliced_nil ?_
        obtain ⟨h2, hh2⟩ : ∃ h2, h2 = s1.heap.push { cls := .type "range", data := .fields #[.int 0 s1.toks, .int n t, .int 1 (s1.toks + 1)] } := ⟨_, rfl⟩
        have I2 : Inv X pins σ H1 { s1 with heap := h2, toks := s1.toks + 1 + 1 } := I1.kept fun b o q => by rw [hh2]; exact Heap.get?_push_of_some _ q
        have hr : IsRange h2 s1.heap.objs.size 0 n 1 s1.toks t (s1.toks + 1) := by rw [hh2]; exact IsRange.new ..
        rw [← hh2]
        refine call_list_range (s := { s1 with heap := h2, toks := s1.toks + 1 + 1 }) (I2.ok.hd hc) hr (small_one (by omega) (by omega) (by omega) (by omega)) (n := n.toNat) (by rw [rangeSize_one]; split <;> omega) (by omega) fun h' tk acc c' hk hS hacc => ?_
        have fr := I2.hok.fresh (Nat.le_refl _)
        have rel : aP ((List.range n.toNat).map fun k : Nat => V.int (k : Nat)) acc.toList := by
          have gen : ∀ (l : List Value) (m : Nat), (∀ (j : Nat) v, l[j]? = some v → ∃ t, v = .int ((m + j : Nat) : Int) t) → aP ((List.range' m l.length).map fun k : Nat => V.int (k : Nat)) l := fun l => by
            induction l with
            | nil => intro m _; exact .nil
            | cons x l ih =>
              intro m hv
              obtain ⟨t', ht'⟩ := hv 0 x rfl
              rw [List.length_cons, List.range'_succ, List.map_cons]
              refine .cons ⟨t', by rw [ht']; simp⟩ (ih (m + 1) fun j v hj => ?_)
              obtain ⟨t2, ht2⟩ := hv (j + 1) v (by simpa using hj)
              exact ⟨t2, by rw [ht2]; congr 1; omega⟩
          have := gen acc.toList 0 fun j v hj => by
            obtain ⟨t', ht'⟩ := hacc.2 j v (by simpa using hj)
            exact ⟨t', by rw [ht']; congr 1; omega⟩
          rw [List.range_eq_range', ← hacc.1]
          simpa using this
        have lz : ((List.range n.toNat).map fun k : Nat => V.int (k : Nat)).length ≤ sizeLine := by
          rw [sizeLine_eq]; simp; omega
        have rd : RDs X.K ρ1 H1 ((List.range n.toNat).map fun k : Nat => D.int k) ((List.range n.toNat).map fun k : Nat => V.int (k : Nat)) := by
          generalize List.range n.toNat = l
          induction l with
          | nil => exact RDs.nil
          | cons x l ih => exact RDs.cons (by simp only [RD]) ih
        exact ⟨.ref h2.objs.size, _, I2.laid (t' := tk) (o := .lst ((List.range n.toNat).map fun k : Nat => V.int (k : Nat))) hk (Nat.le_refl _) ⟨lz, acc.toList, c', rel, hS⟩, rfl, pp.mk ex1 rs1 rd _ fr⟩
    · exact pp.elim
end
end Fm
set_option linter.all false
namespace Fm
end Fm
set_option linter.all false
namespace Fm
noncomputable section
open Classical
@[simp] def lG (nl : Nat) (caps : List Nat) (a : EF) (tg : GF) (cs : List TF) (e : EF) : LF := fun σ h => match a σ h with
  | .ok (.ref n) h => match h[n]? with
    | some (.lst l) => eO (fun h => h[n]? = some (.lst l)) tg cs e (dr l) (fR nl caps σ) h
    | _ => .bad
  | .ok _ _ => .bad
  | .exc x h => .exc x h
  | .bad => .bad
end
theorem n5 {G : Hd → Prop} {tg : GF} {cs : List TF} {e : EF} {h : Hd} (I : Sd → Prop) (p : D → Bool) (f : D → D) (hh : G h) :
    ∀ {xs : List D} {σ : Sd}, (∀ x ∈ xs, ∀ σ, I σ → ∃ σ', tg x σ = some σ' ∧ I σ' ∧ iN cs σ' h = .ok (p x) h ∧ (p x = true → e σ' h = .ok (f x) h)) → I σ →
      eO G tg cs e xs σ h = .ok ((xs.filter p).map f) h
  | [], _, _, _ => by simp [eO, hh]
  | x :: xs, σ, st, i => by
    obtain ⟨σ', h1, h2, h3, h4⟩ := st x (by simp) σ i
    have ih := n5 I p f hh (xs := xs) (σ := σ') (fun y hy => st y (by simp [hy])) h2
    cases hp : p x with
    | true => simp [eO, hh, h1, h3, hp, h4 hp, ih]
    | false => simp [eO, hh, h1, h3, hp, ih]
end Fm
set_option Elab.async false
set_option linter.all false
set_option maxRecDepth 100000
namespace Fm
open PySem PySem.Spec L2
section
variable {X : Cx} {pos : Pos} {scope : Scope} {own capn : List Str} {caps : List Nat}
theorem Eb {elt tg iter : Expr} {ifs : List Expr} {f : EF} {g : GF} {cs : List TF} {e : EF} (hc : X.calm = true) (S : bR X scope own capn caps) (hi : MIE X tg iter f)
    (hin : ∀ cl C s H ex, MG (cxC X (own ++ capn) scope cl C s H ex) tg g ∧ MTs (cxC X (own ++ capn) scope cl C s H ex) ifs cs ∧ ME (cxC X (own ++ capn) scope cl C s H ex) elt e)
    (hs : ∀ x, foldedSetIterable iter X.env x = pure x := by intro _; rfl) : MF X (.ListComp elt [⟨tg, iter, ifs, 0⟩] scope pos) (lG own.length caps f g cs e) := by
  intro pins s σ H Q I ⟨ρ, σd, hd, rs, p⟩
  rw [eval_ListComp]
  unfold lG at p
  cases c : f σd hd with
  | exc z h7 => rw [c] at p; exact p.elim
  | bad => rw [c] at p; exact p.elim
  | ok d hd1 =>
    rw [c] at p
    cases d <;> try exact p.elim
    rename_i n
    simp only at p
    cases c1 : hd1[n]? with
    | none => rw [c1] at p; exact p.elim
    | some cell =>
      rw [c1] at p
      cases cell with
      | dct l => exact p.elim
      | lst l0 =>
        simp only at p
        obtain ⟨cl, h1, hcl1, hcl2⟩ := jX (scope := scope) (env := X.env) fun y hy hyf => I.ok.has y.1 (S.free y hy hyf)
        refine wpAny_comprehension_free (use := none) rfl hs h1 S.kind S.names (thn (hi pins s σ H (fun J H1 => ∃ ρ1, Ext ρ H ρ1 H1 ∧ RS X.K ρ1 H1 σd hd1 σ ∧ vW X.K ρ1 H1 J (dr l0) (fun h => h[n]? = some (.lst l0))) I ⟨ρ, σd, hd, rs, by
          unfold Bl
          rw [c]
          simp only [c1]
          exact fun J H' ρ' ex rs' wk => ⟨ρ', ex, rs', wk⟩⟩) fun v s1 h1 => thn h1 fun itv s2 h2 => ?_)
        obtain ⟨it, fp, tn, J, H1, rfl, I1, T, st0, hf, ρ1, ex1, rs1, wk⟩ := h2
        generalize hG : (fun h : Hd => h[n]? = some (.lst l0)) = G at p wk
        cases c2 : eO G g cs e (dr l0) (fR own.length caps σd) hd1 with
        | exc z h7 => rw [c2] at p; exact p.elim
        | bad => rw [c2] at p; exact p.elim
        | ok ds hdF =>
          rw [c2] at p
          refine ly (RR := fun acc C => compPost (model X.prog X.w) X.A X.xe none (EP X pins σ Q) acc C) hc S hin I1 T st0 hf rs1 wk hcl1 hcl2 c2 fun C s' m H' ρ' vs hC hn I' hCn ex rh hD0 hD hnD rds => ?_
          refine ⟨m, hn, fun h' sb => ⟨.ref s2.heap.objs.size, H', ?_, rfl, ?_⟩⟩
          · refine I'.turned (it := C) (t' := s'.toks) (fun b o hb e => (sb.2 b hb).trans e) hCn ?_ (.inr (Nat.le_of_lt (Nat.lt_of_le_of_lt I1.sz hC))) (fun x c e z => ?_) fun q hq z => ?_
            · exact Nat.ne_of_gt (Nat.lt_trans I1.lt hC)
            · obtain ⟨v, o, ho, hd⟩ := I1.cell x c e
              exact absurd (Nat.lt_trans (Heap.lt_size ho) hC) (by rw [z]; exact Nat.lt_irrefl _)
            · exact absurd (Nat.lt_trans (Heap.lt_size (I1.pin q hq).1) hC) (by rw [z]; exact Nat.lt_irrefl _)
          · exact p _ vs H' ρ' (ex1.trans ex) (rs.ext (ex1.trans ex) rh) (ex1.fresh hD0 (rs1.hp.free hD0)) hD hnD rds
end
section
variable {X : Cx}
end
end Fm
set_option Elab.async false
set_option linter.all false
set_option maxRecDepth 100000
namespace L2
open PySem PySem.Spec PyProof.Rows PySem.W PySem.Builtin PySem.Builtin.ObjectAttr PySem.Builtin.Getset_descriptor
structure m7 (K : PySem.W.Frag) (D : Addr) : Prop where
  ga : PySem.W.findIn K (.ref D) "__getattribute__" = some (some (.builtin "BaseException.__getattribute__"))
  gt : PySem.W.findIn K (.ref D) "__getattr__" = some none
  cl : PySem.W.findIn K (.ref D) "__class__" = some (some (.builtin "object.__class__"))
  be : PySem.W.subIn K (.ref D) (.type "BaseException") = some true
  ob : PySem.W.mroIn K D (.type "object") = some true
  is : (PySem.W.clsIn K D).isSome = true
section
variable {prog : Program} {w : World} {A : Around} {E : Value → Shared → Prop} {K : PySem.W.Frag} {D : Addr} {h : Heap} {g : Array GenState} {d : Drawn} {t : Nat} {os : OsState} {a : Addr} {o : Obj} {vs : Array Value}
theorem nK.type {M : Model} (I : nK h a D o) : PySem.W.Looks M h (typeOf (.ref a)) (.ref D) := I.cls ▸ (PySem.W.Looks.ld I.at_).andThen .now
theorem Ie {R : Result → Shared → Prop} {tp : Value} (X : K.In h) (I : nK h a D o) (hm : PySem.W.mroIn K D (.type "object") = some true) (hq : R (.ok (.ret (.ref D))) ⟨h, g, d, t, os⟩) :
    codeAny (model prog w) A (.call (.builtin "getset_descriptor.__get__") ⟨[.builtin "object.__class__", .ref a, tp], []⟩) R ⟨h, g, d, t, os⟩ := by
  have hT5 : (⟨h, g, d, t, os⟩ : Shared).TypeIs (.builtin "object.__class__") "getset_descriptor" := F.typeOf_object_class
  have L0 := I.type (M := model prog w)
  have L1 := PySem.W.looks_mroIn (M := model prog w) X hm
  refine codeAny_call_builtin F.slot_gs_get.plain F.entry_gs_get (F.slot_gs_get.check _ _ _ _ _ _ _ _ hT5 (F.args_gs_get _ _ _) ?_)
  unfold Builtin.«getset_descriptor.__get__» descrGet
  rw [PySem.W.dga_obj]
  refine wpAny_bind (wpAny_pure ?_); unfold descrGetter descrCheckInstance descrNameAndClass isInstance
  simp only [KF.owner_class]
  repeat (first | with_reducible refine L0.at ?_ | with_reducible refine L1.at ?_ | lk)
  refine ⟨Code.quiet_builtin _ (by decide +kernel), codeAny_builtin F.entry_object_class ?_⟩
  unfold Builtin.«object.__class__» shownTypeOf
  repeat (first | with_reducible refine L0.at ?_ | lk)
  exact hq
theorem Ec {tk : Tok} {Q : Fin → Shared → Prop} (Z : m7 K D) (X : K.In h) (I : nK h a D o) (hq : Q (.done (.ret (.ref D))) ⟨h, g, d, t, os⟩) :
    wpAny (model prog w) A (Builtin.«object.__getattribute__» ⟨[.ref a, .str "__class__" tk], []⟩) Q E ⟨h, g, d, t, os⟩ := by
  have L0 := I.type (M := model prog w)
  have L1 := PySem.W.looks_findIn (M := model prog w) X Z.cl
  have hT5 : (⟨h, g, d, t, os⟩ : Shared).TypeIs (.builtin "object.__class__") "getset_descriptor" := F.typeOf_object_class
  have f5 := F.typeOf_object_class
  have f6 := F.slot_gs_get.lookup
  have f7 := F.slot_gs_set.lookup
  repeat (any_goals (first | assumption | with_reducible refine L0.at ?_ | with_reducible refine L1.at ?_ | wp_step))
  refine Ie X I Z.ob ?_
  repeat (any_goals (first | assumption | wp_step))
theorem Ed {M : Model} {nameV : Value} {Q : Unit → Shared → Prop} (Z : m7 K D) (X : K.In h) (I : nK h a D o) (hq : Q () ⟨h, g, d, t, os⟩) :
    wpAny M A (checkBuiltinCall "BaseException.__getattribute__" ⟨[.ref a, nameV], []⟩) Q E ⟨h, g, d, t, os⟩ := by
  have hk : builtinKind "BaseException.__getattribute__" = some .slot := by decide +kernel
  have hsplit : splitId "BaseException.__getattribute__" = some ("BaseException", "__getattribute__") := by decide +kernel
  have ha := F.args_bexc_ga (.ref a) nameV
  have L0 := I.type (M := M)
  have L1 := PySem.W.looks_subIn (M := M) X Z.be
  simp only [checkBuiltinCall, hk, hsplit]
  refine wpAny_bind ?_
  unfold isInstance
  repeat (first | with_reducible refine L0.at ?_ | with_reducible refine L1.at ?_ | wp_step)
  exact hq
theorem FV {tk : Tok} {R : Result → Shared → Prop} (Z : m7 K D) (X : K.In h) (I : nK h a D o) (hq : R (.ok (.ret (.ref D))) ⟨h, g, d, t, os⟩) :
    codeAny (model prog w) A (.call (.builtin "BaseException.__getattribute__") ⟨[.ref a, .str "__class__" tk], []⟩) R ⟨h, g, d, t, os⟩ :=
  codeAny_call_builtin F.attr_ValueError.ga.plain F.entry_bexc_ga (Ed Z X I (Ec Z X I hq))
theorem Jx {tk : Tok} {fill expr : Bool} {Q : Value → Shared → Prop} (Z : m7 K D) (X : K.In h) (I : nK h a D o) (hq : Q (.ref D) ⟨h, g, d, t, os⟩) :
    wpAny (model prog w) A (getAttrBy (.ref a) (.str "__class__" tk) fill expr) Q E ⟨h, g, d, t, os⟩ := by
  have f3 := F.attr_ValueError.ga.bind (.ref a)
  have hx0 : (expr && onTheHeap (Value.builtin "BaseException.__getattribute__")) = false := by cases expr <;> rfl
  have hx2 : (Value.builtin "BaseException.__getattribute__" == Value.builtin "object.__getattribute__") = false := by decide +kernel
  have hx1 : (onTheHeap (Value.ref D) && Value.builtin "BaseException.__getattribute__" == Value.builtin "object.__getattribute__") = false := by rw [hx2]; rfl
  have L0 := I.type (M := model prog w)
  have L1 := PySem.W.looks_findIn (M := model prog w) X Z.ga
  have L2 := PySem.W.looks_findIn (M := model prog w) X Z.gt
  repeat (any_goals (first | assumption | with_reducible refine L0.at ?_ | with_reducible refine L1.at ?_ | with_reducible refine L2.at ?_ | wp_step))
  refine FV Z X I ?_
  repeat (any_goals (first | assumption | wp_step))
theorem FW {Q : Option Value → Shared → Prop} (Z : m7 K D) (X : K.In h) (I : nK h a D o) (hq : Q (some (.ref D)) ⟨h, g, d, t + 1, os⟩) :
    wpAny (model prog w) A (getAttr? (.ref a) "__class__") Q E ⟨h, g, d, t, os⟩ := by
  unfold getAttr? getAttrBy?
  repeat (any_goals (first | assumption | with_reducible apply Jx Z X I | wp_step))
theorem Ee (Z : m7 K D) : PySem.W.KitX K (.ref a) (.ref D) (fun h => ∃ o, nK h a D o) where
  ty := fun _ _ _ ⟨o, I⟩ => I.type
  it := fun _ _ X _ => by
    obtain ⟨cd, hc⟩ := Option.isSome_iff_exists.mp Z.is
    unfold PySem.W.clsIn at hc
    split at hc
    · rename_i c' d' cd' sl' ho
      intro A' Q' E' s' k q
      unfold isType loadHead
      exact wpAny_bind (wpAny_loadPart (k _ _ (X _ _ ho)) (wpAny_pure q))
    · cases hc
  ne := fun h tp dd its n sl X htp => by
    obtain ⟨cd, hc⟩ := Option.isSome_iff_exists.mp Z.is
    refine Bool.eq_false_iff.mpr fun q => ?_
    have e : D = tp := Value.ref.inj (beq_iff_eq.mp q)
    subst e
    unfold PySem.W.clsIn at hc
    split at hc
    · rename_i c' d' cd' sl' ho
      have z := (X _ _ ho).symm.trans htp
      cases z
    · cases hc
  ca := fun {_ _ _ _ _ s} X ⟨o, I⟩ k => by obtain ⟨h, g, d, t, os⟩ := s; exact FW Z X I k
theorem Ef {M : Model} {B : Addr} {Q : Bool → Shared → Prop} (X : K.In h) (I : nK h a D o) (hs : PySem.W.subIn K (.ref D) (.ref B) = some true) (hb : PySem.W.subIn K (.ref B) (.type "BaseException") = some true)
    (hc : (PySem.W.clsIn K B).isSome = true) (ht : PySem.W.typeIn K (.ref B) = some (.type "type")) (hq : Q true ⟨h, g, d, t, os⟩) : wpAny M A (excMatches (.ref a) (.ref B)) Q E ⟨h, g, d, t, os⟩ := by
  have L0 := I.type (M := M)
  have L1 := PySem.W.looks_subIn (M := M) X hs
  have L2 := PySem.W.looks_subIn (M := M) X hb
  have L3 := PySem.W.looks_typeIn (M := M) X ht
  have f := tc_notTuple
  obtain ⟨cd, hcd⟩ := Option.isSome_iff_exists.mp hc
  unfold PySem.W.clsIn at hcd
  split at hcd
  · rename_i c' d' cd' sl' ho
    have hB := X _ _ ho
    unfold excMatches
    repeat (first | with_reducible refine L0.at ?_ | with_reducible refine L1.at ?_ | with_reducible refine L2.at ?_ | with_reducible refine L3.at ?_ | with_reducible refine wpAny_loadPart_at hB ?_ | wp_step)
    exact hq
  · cases hcd
end
end L2
set_option Elab.async false
set_option linter.all false
set_option maxRecDepth 100000
namespace L2
open PySem PySem.Spec PyProof.Rows
section
variable {P : Program} {w : World} {H : Hp} {h : Heap} {a : Addr} {o : HO}
theorem eN.obj (x : eN P w H h a o) : ∃ ob, h.get? a = some ob := by
  induction o with
  | lst xs => obtain ⟨_, _, _, _, e⟩ := x; exact ⟨_, e⟩
  | tup xs => obtain ⟨_, _, _, ob, e, _⟩ := x; exact ⟨_, e⟩
  | dK kvs => obtain ⟨_, _, _, _, o, _, _, e, _⟩ := x; exact ⟨_, e⟩
  | dT kvs => obtain ⟨_, _, _, _, o, _, _, e, _⟩ := x; exact ⟨_, e⟩
  | set S n => obtain ⟨o, _, _, _, e, _⟩ := x; exact ⟨_, e⟩
  | ins C dx fs => obtain ⟨_, _, _, e, _⟩ := x; exact ⟨_, e⟩
  | own y => obtain ⟨_, e⟩ := x; exact ⟨_, e⟩
  | xd fs => obtain ⟨_, ⟨ob, _, _, e, _⟩, _⟩ := x; exact ⟨_, e⟩
  | rng lo hi => obtain ⟨_, _, _, e⟩ := x; exact ⟨_, e⟩
  | frz ob u ih => obtain ⟨e, _⟩ := x; exact ⟨_, e⟩
  | tbl ps => exact ⟨_, x⟩
  | met f y => exact ⟨_, x⟩
  | ext φ => obtain ⟨_, ⟨ob, e⟩, _⟩ := x; exact ⟨_, e⟩
end
structure Cov (X : Cx) (pins : List (Addr × Obj)) (H : Hp) (B : Heap) : Prop where
  trk : ∀ b u, H b = some u → ∃ o, B.get? b = some o
  old : ∀ b o, X.s₀.heap.get? b = some o → b ∉ frs X.stack → b ∉ X.ex → ∃ o, B.get? b = some o
  pin : ∀ p ∈ X.pn ++ pins, ∃ o, B.get? p.1 = some o
section
variable {X : Cx} {pins : List (Addr × Obj)} {σ : St} {H : Hp} {s : Shared} {B h' : Heap}
theorem Inv.flown (I : Inv X pins σ H s) (b1 : B.StaysIn s.heap) (b2 : B.StaysIn h') (sm : s.heap.UpToSlots h') (c : Cov X pins H B) (t' : Nat) : Inv X pins σ H { s with heap := h', toks := t' } := by
  have same : ∀ b o, (∃ u, B.get? b = some u) → s.heap.get? b = some o → h'.get? b = some o := fun b o ⟨u, e⟩ q => by
    have := b1 b u e
    rw [q] at this; cases this
    exact b2 b _ e
  have nst : ∀ b o, X.s₀.heap.get? b = some o → b ∉ X.fs → b ∉ frs X.stack := fun b o e hb hs => by
    rcases List.mem_cons.mp (I.stkSub b hs) with z | z
    · exact absurd z (Nat.ne_of_lt (Nat.lt_of_lt_of_le (Heap.lt_size e) I.ok.above))
    · exact hb z
  have fsl : ∀ b o, b ∈ X.fs → s.heap.get? b = some o → ∃ sl, h'.get? b = some { o with slots := sl } := fun b o hb e => by
    obtain ⟨_, o', ho', nf⟩ := I.funs.mem hb
    rw [e] at ho'; cases ho'
    exact sm b o e nf
  have cellK : ∀ c v, s.heap.IsCell c v → h'.IsCell c v := fun c v ⟨o, ho, hd⟩ => by
    obtain ⟨sl, q⟩ := sm c o ho (fun vs z => by rw [hd] at z; cases z)
    exact ⟨_, q, hd⟩
  refine ⟨I.ok, I.os, I.bare, ⟨fun b o e n hb hx => ?_, fun b o e n hb hx => ?_, I.base.free, fun b o e hx => ?_, I.base.tups, I.base.frzs, I.base.tbls⟩, ?_, fun x c e => ?_, I.free, I.freeC, fun p hp => ?_, fun b u e => ?_, I.len⟩
  · exact same b o (c.old b o e (nst b o e hb) hx) (I.base.keep b o e n hb hx)
  · obtain ⟨sl, e1⟩ := I.base.slot b o e n hb hx
    obtain ⟨sl', e2⟩ := fsl b _ hb e1
    exact ⟨sl', e2⟩
  · obtain ⟨o', e1⟩ := I.base.there b o e hx
    by_cases hb : b ∈ X.fs
    · obtain ⟨sl, e2⟩ := fsl b o' hb e1; exact ⟨_, e2⟩
    · exact ⟨o', same b o' (c.old b o e (nst b o e hb) hx) e1⟩
  · obtain ⟨m, hn, hl⟩ := I.loc
    refine ⟨m, sm.ns hn, fun i x v e1 e2 e3 => ?_⟩
    obtain ⟨u, r, l⟩ := hl i x v e1 e2 e3
    refine ⟨u, r, ?_⟩
    rcases l with l | ⟨k, c, e, z⟩
    · exact .inl l
    · exact .inr ⟨k, c, e, cellK c _ z⟩
  · obtain ⟨v, z⟩ := I.cell x c e
    exact ⟨v, cellK c v z⟩
  · obtain ⟨e, n, ne, nf, d⟩ := I.pin p hp
    exact ⟨same _ _ (c.pin p hp) e, n, ne, nf, d⟩
  · refine (I.hok b u e).stay (fun c' v hc q => same c' v ?_ q) (fun _ q => q) fun _ _ q => q
    rcases hc with z | z
    · rw [z]; exact c.trk b u e
    · exact c.trk c' _ z
def XF (X : Cx) (E : Addr → Hp → Prop) (e : Value) (s' : Shared) : Prop := ∃ pins σ H a C B t, e = .ref a ∧ Inv X pins σ H s' ∧ Heap.FlyingW B X.stack a (.ref C) (.ref t) s'.heap ∧ Cov X pins H B ∧ E C H
def XAt (X : Cx) (pins : List (Addr × Obj)) (σ : St) (H : Hp) (a C : Addr) (s' : Shared) : Prop :=
  (∃ s1 h' vs, Inv X pins σ H s1 ∧ Heap.MadeExcOf s1.heap h' a (.ref C) vs ∧ s' = { s1 with heap := h' }) ∨
  (∃ B t, Inv X pins σ H s' ∧ Heap.FlyingW B X.stack a (.ref C) (.ref t) s'.heap ∧ Cov X pins H B)
def XP (X : Cx) (E : Addr → Hp → Prop) (e : Value) (s' : Shared) : Prop := ∃ pins σ H a C, e = .ref a ∧ XAt X pins σ H a C s' ∧ E C H
def CX1 (P : Program) (w : World) : CXT := fun outer H s E e s' => ∃ a C B t H', e = .ref a ∧ s'.os = s.os ∧ AllBare s'.gens ∧ Un (frs outer) [] H H' s.heap s'.heap ∧ HOk P w H' s'.heap ∧
  Heap.FlyingW B outer a (.ref C) (.ref t) s'.heap ∧ (∀ b u, H' b = some u → ∃ o, B.get? b = some o) ∧ (∀ b o, s.heap.get? b = some o → b ∉ frs outer → ∃ o, B.get? b = some o) ∧ E (.ref C) none H'
theorem XF.xp {E : Addr → Hp → Prop} {e : Value} {s' : Shared} : XF X E e s' → XP X E e s' := fun ⟨pins, σ, H, a, C, B, t, he, I, fl, c, q⟩ => ⟨pins, σ, H, a, C, he, .inr ⟨B, t, I, fl, c⟩, q⟩
theorem Jy {E : XK} {E' : Addr → Hp → Prop} {R : Value → Shared → Prop} (h : ∀ C H, E (.ref C) none H → E' C H) (hR : ∀ e s', XF X E' e s' → R e s') : nG (CX1 X.prog X.w) (X.wish R) E := by
  rintro pins σ H s e s' I ⟨a, C, B, t, H', he, os, bare, un, hok, fl, trk, old, q⟩
  have I0 := I.unwish
  have I' : Inv X pins σ H' s' := I0.call' (ch := []) os un hok bare (fun b z => absurd z (by simp))
  refine hR _ _ ⟨pins, σ, H', a, C, B, t, he, I', fl, ⟨trk, fun b o e hb hx => ?_, fun p hp => ?_⟩, h C H' q⟩
  · obtain ⟨o', e'⟩ := I0.base.there b o e hx
    exact old b o' e' hb
  · obtain ⟨e, n, ne, nf, _⟩ := I0.pin p hp
    exact old p.1 p.2 e fun z => (List.mem_cons.mp (I0.stkSub p.1 z)).elim ne nf
theorem Eg (I : Inv X pins σ H s) : Cov X pins H (PySem.W.hideAll s.heap (frs X.stack)) where
  trk := fun b u e => by
    obtain ⟨o, q⟩ := (I.hok b u e).obj
    refine ⟨o, PySem.W.hideAll_get _ q fun z => ?_⟩
    rw [I.stkFree b z] at e; cases e
  old := fun b o e hb hx => by
    obtain ⟨o', e'⟩ := I.base.there b o e hx
    exact ⟨o', PySem.W.hideAll_get _ e' hb⟩
  pin := fun p hp => by
    obtain ⟨e, n, ne, nf, _⟩ := I.pin p hp
    exact ⟨_, PySem.W.hideAll_get _ e fun z => (List.mem_cons.mp (I.stkSub p.1 z)).elim ne nf⟩
end
theorem t5 {P : Program} {w : World} {K : PySem.W.Frag} {mg : Str → Option Value} {base : Heap} {N : List Str} {qual : Str} {scope : Scope} {f : Addr} {cd : Value} {A : Around} {outer : List Env} {s : Shared} {H : Hp} {E : XK} {e : Value} {s' : Shared}
    (h : XP (mW (CX1 P w) P w K mg base N qual scope f cd A outer s H E) (fun C H' => E (.ref C) none H') e s') : (mW (CX1 P w) P w K mg base N qual scope f cd A outer s H E).xe e s' := by
  obtain ⟨pins, σ, H', a, C, rfl, hx, q⟩ := h
  have fin : ∀ {s1 : Shared} {B : Heap} {h' : Heap} {t : Addr}, Inv (mW (CX1 P w) P w K mg base N qual scope f cd A outer s H E) pins σ H' s1 → B.StaysIn s1.heap → s1.heap.UpToSlots h' →
      Cov (mW (CX1 P w) P w K mg base N qual scope f cd A outer s H E) pins H' B → Heap.FlyingW B outer a (.ref C) (.ref t) h' → CX1 P w outer H s E (.ref a) { s1 with heap := h' } := by
    intro s1 B h' t I b1 sm c fl
    have J := I.flown (h' := h') b1 fl.1 sm c s1.toks
    refine ⟨a, C, B, t, H', rfl, J.os, J.bare, J.base, J.hok, fl, c.trk, fun b o e hb => c.old b o e (fun z => ?_) (fun z => absurd (show b ∈ ([] : List Addr) from z) (by simp)), q⟩
    rcases List.mem_cons.mp (I.stkSub b z) with y | y
    · exact absurd y (Nat.ne_of_lt (Nat.lt_of_lt_of_le (Heap.lt_size e) I.ok.above))
    · exact hb y
  rcases hx with ⟨s1, h1, vs, I, mk, rfl⟩ | ⟨B, t, I, fl, c⟩
  · have hin : ∀ env ∈ (envOfC qual scope s.heap.objs.size f cd :: outer), ∀ b, env.frame = some b → b ∈ frs (envOfC qual scope s.heap.objs.size f cd :: outer) := fun env he b hb => List.mem_filterMap.mpr ⟨env, he, hb⟩
    refine wpAny_leaves_madeW (base := PySem.W.hideAll s1.heap (frs (envOfC qual scope s.heap.objs.size f cd :: outer))) (I.ok.frames) rfl (fun b o q => PySem.W.of_hideAll _ q) (PySem.W.funFrames_hide I.stack hin) mk fun h' t x1 x2 x3 x4 => ?_
    exact fin (s1 := s1) (h' := h') (t := t) I (fun b o q => PySem.W.of_hideAll _ q) ((Heap.UpToSlots.of_keeps mk.keeps).trans x4) (Eg I) x1
  · exact wpAny_leaves_onW I.ok.frames rfl fl fun h' x1 x2 => fin I fl.1 x2 c x1
end L2
set_option Elab.async false
set_option linter.all false
set_option maxRecDepth 100000
namespace L2
open PySem PySem.Spec PyProof.Rows
section
variable {X : Cx} {E : Addr → Hp → Prop} {x : Str} {C : Addr} {bm : List Value} {B newId initId : String} {np cpos pos : Pos} {e₀ : Expr} {rest : List Expr} {ta : TA}
def Ig (C : Addr) (E : Addr → Hp → Prop) (ta : TA) : TS := fun _ σ H => ta σ H fun vs H1 => vs.length ≤ sizeLine ∧ E C H1
theorem Eh (O : OwnCls x C bm newId X.mg X.base) (FB : ExcBaseFacts B newId initId bm) (hc : X.calm = true) (hg : Gl X x) (ha : PA (X.wish (XP X E)) (e₀ :: rest) ta) (hdb : (x == ("__debug__" : Str)) = false := by decide)
    (he : starEach (e₀ :: rest) X.env = (false, eval e₀ X.env) :: starEach rest X.env := by rfl) (hpl : (backTo cpos (starEach rest X.env)).any (·.1) = false := by rfl) :
    PS (X.wish (XP X E)) (.Raise (some (.Call (.Name x np) (e₀ :: rest) [] cpos)) none pos) (Ig C E ta) := by
  intro pins s σ H D I h
  obtain ⟨tl, N, nm, q, bs, hdct, sn, sub, ab, col, dd, k0, k1, k2, k3, k5, mN, hC, hN, hni, T⟩ := O.obj
  have hp2 : (backTo cpos (starEach (e₀ :: rest) X.env)).any (·.1) = false := by
    rw [he]; show (false || (backTo cpos (starEach rest X.env)).any (·.1)) = false; rw [hpl]; rfl
  refine wpAny_Raise_call_subT (C := C) (nm := nm) (q := q) (N := N) (bs := bs) (bm := tl) (hdct := hdct) (sn := sn) (sub := sub) (ab := ab) (col := col) (dd := dd) (k0 := k0) (k1 := k1) (k2 := k2) (k3 := k3) (k5 := k5) (mN := mN)
    FB (T.hasType FB.hasBase) (I.ok.hd hc) hp2 hni (tu I hg O.bound ⟨rfl, ?_⟩ hdb)
  have h2 := ha cpos pins s σ H _ I h
  have he' : starEach (e₀ :: rest) (X.wish (XP X E)).env = (false, eval e₀ X.env) :: starEach rest X.env := he
  rw [he'] at h2 ⊢
  exact Calls.evalArgs_plain (wpAny_mono h2 (fun us s2 ⟨vs, H1, I1, r, q1⟩ => ⟨rfl, by rw [← r.length]; exact q1.1, I1.bk _ _ hC, hN.keeps I1.bk, T.keeps I1.bk, fun h' e mk => ⟨pins, σ, H1, e, C, rfl, .inl ⟨s2, h', us, I1.unwish, mk, rfl⟩, q1.2⟩⟩) fun _ _ z => z)
end
section
variable {P : Program} {w : World} {K : PySem.W.Frag} {mg : Str → Option Value} {base : Heap}
end
section
variable {X : Cx} {pins : List (Addr × Obj)} {σ : St} {H : Hp} {s : Shared}
theorem Inv.exc {B : Heap} {a C t : Addr} (I : Inv X pins σ H s) (fl : Heap.FlyingW B X.stack a (.ref C) (.ref t) s.heap) (c : Cov X pins H B) : Inv X pins σ (upd H a (ko a C)) s := by
  obtain ⟨oe, vs, hoe, hcl, hdt, _⟩ := fl.first
  have hB := fl.2.1
  have hn : H a = none := by
    cases e : H a with
    | none => rfl
    | some u => obtain ⟨o, q⟩ := c.trk a u e; rw [hB] at q; cases q
  have nfr : a ∉ frs X.stack := fun z => by
    obtain ⟨_, o, ho, nf⟩ := I.stack.mem z
    rw [hoe] at ho; cases ho; exact nf vs hdt
  have nold : ∀ b o, X.s₀.heap.get? b = some o → b ∉ X.ex → b ≠ a := fun b o e hx z => by
    subst z
    obtain ⟨o', q⟩ := c.old _ o e nfr hx
    rw [hB] at q; cases q
  have keepH : ∀ b u, H b = some u → upd H a (ko a C) b = some u := fun b u e => by rw [aD (aG e hn)]; exact e
  refine ⟨I.ok, I.os, I.bare, ⟨I.base.keep, I.base.slot, fun b o e n hx => ?_, I.base.there, fun b xs e => keepH b _ (I.base.tups b xs e), fun b o u e => keepH b _ (I.base.frzs b o u e), fun b ps e => ?_⟩, I.loc, I.cell, ?_, fun x c' e => ?_, fun p hp => ?_, fun b u e => ?_, I.len⟩
  · rw [aD (nold b o e hx)]; exact I.base.free b o e n hx
  · obtain ⟨m, q⟩ := I.base.tbls b ps e
    exact ⟨m, keepH b _ q⟩
  · rw [aD]
    · exact I.free
    · intro z
      obtain ⟨m, ⟨o, es, ep, ho, hd, _⟩, _⟩ := I.loc
      rw [z, hoe] at ho; cases ho; rw [hdt] at hd; cases hd
  · rw [aD]
    · exact I.freeC x c' e
    · intro z
      obtain ⟨v, o, ho, hd⟩ := I.cell x c' e
      rw [z, hoe] at ho; cases ho; rw [hdt] at hd; cases hd
  · obtain ⟨e, n, ne, nf, d⟩ := I.pin p hp
    refine ⟨e, ?_, ne, nf, d⟩
    rw [aD]
    · exact n
    · intro z
      obtain ⟨o, q⟩ := c.pin p hp
      rw [z, hB] at q; cases q
  · by_cases hb : b = a
    · subst hb
      rw [bh] at e; cases e
      exact ⟨⟨oe, hoe, hcl⟩, ⟨oe, hoe⟩, fun h1 h2 ⟨o, ho, hc⟩ k => ⟨o, k o ho, hc⟩⟩
    · rw [aD hb] at e
      exact (I.hok b u e).stay (fun _ _ _ q => q) (fun b' q => keepH b' _ q) fun b' xs q => keepH b' _ q
theorem Inv.goes {M : Model} {A : Around} {E : Value → Shared → Prop} {j : Nat} {n : Str} {pos : Pos} {Q : Unit → Shared → Prop} (I : Inv X pins σ H s) (hN : X.N.Nodup) (hj : X.N[j]? = some n) (hl : X.env.kindOf n = some .local)
    (h : ∀ s', Inv X pins (σ.set j none) H s' → Q () s') : wpAny M A (do bindName X.env n .none; unbindBehindTheSuite X.env n pos) Q E s := by
  obtain ⟨m, hn, hlo⟩ := id I.loc
  have hcls : (X.env.scope.kind == .class || (X.env.scope.kind == .module && X.env.locals != X.env.globals)) = false := by rw [I.ok.kind]; rfl
  obtain ⟨oL, _, _, hoL, _⟩ := id hn
  refine wpAny_nameGoes_keeps hl hn hcls fun h' v hn' hs => ?_
  have old : ∀ b o, X.s₀.heap.get? b = some o → b ≠ X.env.locals := fun b o e => Nat.ne_of_lt (Nat.lt_of_lt_of_le (Heap.lt_size e) I.ok.above)
  refine h _ ⟨I.ok, I.os, I.bare, ⟨fun b o e n hb hx => (hs.2 b (old b o e)).trans (I.base.keep b o e n hb hx), fun b o e n hb hx => ?_, I.base.free, fun b o e hx => ?_, I.base.tups, I.base.frzs, I.base.tbls⟩, ⟨_, hn', fun i y v' e1 e2 e3 => ?_⟩, fun y c e => ?_, I.free, I.freeC, fun p hp => ?_, fun b u e => ?_, by simpa using I.len⟩
  · obtain ⟨sl, e1⟩ := I.base.slot b o e n hb hx
    exact ⟨sl, (hs.2 b (old b o e)).trans e1⟩
  · obtain ⟨o', e1⟩ := I.base.there b o e hx
    exact ⟨o', (hs.2 b (old b o e)).trans e1⟩
  · by_cases hi : i = j
    · subst hi
      by_cases hlt : i < σ.length
      · rw [List.getElem?_set_self hlt] at e2; cases e2
      · rw [List.getElem?_eq_none (by simpa using hlt)] at e2; cases e2
    · rw [List.getElem?_set_ne (Ne.symm hi)] at e2
      obtain ⟨u', r', q⟩ := hlo i y v' e1 e2 e3
      refine ⟨u', r', ?_⟩
      rcases q with ⟨k, e⟩ | ⟨k, c, e, z⟩
      · refine .inl ⟨k, ?_⟩
        have : y ≠ n := fun e => hi (nA hN e1 (e ▸ hj))
        simp [this, e]
      · exact .inr ⟨k, c, e, z.sameBut hs (I.cne y c e)⟩
  · obtain ⟨w', z⟩ := I.cell y c e
    exact ⟨w', z.sameBut hs (I.cne y c e)⟩
  · obtain ⟨e, n, ne, nf, d⟩ := I.pin p hp
    exact ⟨(hs.2 p.1 ne).trans e, n, ne, nf, d⟩
  · refine (I.hok b u e).stay (fun c w' hc q => (hs.2 c ?_).trans q) (fun _ q => q) fun _ _ q => q
    rintro rfl
    rcases hc with z | z
    · rw [← z, I.free] at e; cases e
    · rw [I.free] at z; cases z
abbrev Cx.sui (X : Cx) (a : Addr) : Cx := { X with A := X.A.mark (some (.ref a)), calm := false, xe := fun _ _ => False }
theorem Inv.marked (I : Inv X pins σ H s) (a : Addr) : Inv (X.sui a) pins σ H s :=
  ⟨⟨I.ok.mod, I.ok.kind, I.ok.glob, I.ok.blt, I.ok.above, I.ok.inj, I.ok.has, I.ok.cab, (fun z => by cases z), I.ok.frames, I.ok.stk, I.ok.exf, I.ok.bs, I.ok.bsz, I.ok.noex, I.ok.exfs, I.ok.funs, I.ok.frf⟩, I.os, I.bare, I.base, I.loc, I.cell, I.free, I.freeC, I.pin, I.hok, I.len⟩
theorem Inv.unmark (hh : X.calm = true → X.A.handled = none) {a : Addr} (I : Inv (X.sui a) pins σ H s) : Inv X pins σ H s :=
  ⟨⟨I.ok.mod, I.ok.kind, I.ok.glob, I.ok.blt, I.ok.above, I.ok.inj, I.ok.has, I.ok.cab, hh, I.ok.frames, I.ok.stk, I.ok.exf, I.ok.bs, I.ok.bsz, I.ok.noex, I.ok.exfs, I.ok.funs, I.ok.frf⟩, I.os, I.bare, I.base, I.loc, I.cell, I.free, I.freeC, I.pin, I.hok, I.len⟩
abbrev Cx.pin (X : Cx) (q : List (Addr × Obj)) : Cx := { X with pn := q }
theorem Inv.pinq (I : Inv X pins σ H s) : Inv (X.pin (X.pn ++ pins)) [] σ H s :=
  ⟨⟨I.ok.mod, I.ok.kind, I.ok.glob, I.ok.blt, I.ok.above, I.ok.inj, I.ok.has, I.ok.cab, I.ok.hd, I.ok.frames, I.ok.stk, I.ok.exf, I.ok.bs, I.ok.bsz, I.ok.noex, I.ok.exfs, I.ok.funs, I.ok.frf⟩, I.os, I.bare, I.base, I.loc, I.cell, I.free, I.freeC, fun p hp => I.pin p (by simpa using hp), I.hok, I.len⟩
theorem Inv.unpin {pins' : List (Addr × Obj)} (I : Inv (X.pin (X.pn ++ pins)) pins' σ H s) : Inv X pins σ H s :=
  ⟨⟨I.ok.mod, I.ok.kind, I.ok.glob, I.ok.blt, I.ok.above, I.ok.inj, I.ok.has, I.ok.cab, I.ok.hd, I.ok.frames, I.ok.stk, I.ok.exf, I.ok.bs, I.ok.bsz, I.ok.noex, I.ok.exfs, I.ok.funs, I.ok.frf⟩, I.os, I.bare, I.base, I.loc, I.cell, I.free, I.freeC, fun p hp => I.pin p (List.mem_append_left _ hp), I.hok, I.len⟩
end
section
variable {X : Cx} {body : List Stmt} {x n c : Str} {M : Addr} {i j : Nat} {np cp vp ap hp pos : Pos} {tb : (Addr → Hp → Prop) → TS}
end
end L2
namespace Fm
@[simp] def jZ (c : String) : SF := fun σ h => .exc (.exn c []) σ h
@[simp] def pP (t : TF) (a b : SF) : SF := fun σ h => match t σ h with | .ok c h' => if c then a σ h' else b σ h' | _ => .bad
end Fm
set_option Elab.async false
set_option linter.all false
set_option maxRecDepth 100000
namespace Fm
open PySem PySem.Spec L2 PyProof.Rows
section
variable (K : PySem.W.Frag) (mg : Str → Option Value)
def ee (ρ : List Addr) (H : Hp) (o : Out) (E : Addr → Hp → Prop) (En : nB) : Prop := match o with
  | .exc x _ hd => ∃ c l C, x = .exn c l ∧ mg (Str.ofString c) = some (.ref C) ∧ ∀ H' ρ', Ext ρ H ρ' H' → RH K ρ' H' hd → E C H'
  | .nx σ hd => bp K ρ H (.nx σ hd) En
  | .rt d hd => bp K ρ H (.rt d hd) En
  | .bk σ hd => bp K ρ H (.bk σ hd) En
  | .ct σ hd => bp K ρ H (.ct σ hd) En
  | .bad => False
def wc (E : Addr → Hp → Prop) (f : SF) : TS := fun En σ H => ∃ ρ σd hd, RS K ρ H σd hd σ ∧ ee K mg ρ H (f σd hd) E En
def spX (F : Fn) (np : Nat) : Sp := fun vs H _ E => ∃ ρ hd ds, RH K ρ H hd ∧ RDs K ρ H ds vs ∧ ds.length = np ∧
  ∃ c l hd' C, F ds hd = .exc (.exn c l) hd' ∧ mg (Str.ofString c) = some (.ref C) ∧ ∀ H' ρ', Ext ρ H ρ' H' → RH K ρ' H' hd' → E (.ref C) none H'
end
section
variable {K : PySem.W.Frag} {mg : Str → Option Value} {ρ ρ' : List Addr} {H H' : Hp} {E : Addr → Hp → Prop} {En : nB}
theorem ee.ext {o : Out} (e : Ext ρ H ρ' H') (p : ee K mg ρ H o E En) : ee K mg ρ' H' o E En := by
  cases o with
  | exc x σ hd => obtain ⟨c, l, C, h1, h2, h3⟩ := p; exact ⟨c, l, C, h1, h2, fun H2 ρ2 e2 r => h3 H2 ρ2 (e.trans e2) r⟩
  | nx σ hd => exact bp.ext (o := .nx σ hd) e p
  | rt d hd => exact bp.ext (o := .rt d hd) e p
  | bk σ hd => exact bp.ext (o := .bk σ hd) e p
  | ct σ hd => exact bp.ext (o := .ct σ hd) e p
  | bad => exact p
theorem Ext.sm {H2 : Hp} (e : Ext ρ H ρ' H') (s : jS H' H2) : Ext ρ H ρ' H2 := ⟨e.pre, e.new, fun q u h n => s q u (e.frame q u h n)⟩
end
abbrev Wi := (Addr → Hp → Prop) → Value → Shared → Prop
def MX (X : Cx) (R : Wi) (s : Stmt) (f : SF) : Prop := ∀ E, PS (X.wish (R E)) s (wc X.K X.mg E f)
def MXs (X : Cx) (R : Wi) (s : List Stmt) (f : SF) : Prop := ∀ E, PSs (X.wish (R E)) s (wc X.K X.mg E f)
structure Kk (P : Program) (w : World) (K : PySem.W.Frag) (mg : Str → Option Value) (base : Heap) (x : Str) (k np : Nat) (F : Fn) : Prop where
  ex : ∃ f fd ps, mg x = some (.ref f) ∧ PySem.W.keepIn K (.ref f) = true ∧ jB K fd ps [] ∧ ce P w K mg base (CX1 P w) k f fd ps (spX K mg F np)
section
variable {X : Cx} {R : Wi} {pos p : Pos}
theorem Ei {n : String} {C : Addr} {bm : List Value} {B newId initId : String} {np cpos cp : Pos} {txt : Str} {j} (O : OwnCls (Str.ofString n) C bm newId X.mg X.base) (FB : ExcBaseFacts B newId initId bm) (hc : X.calm = true) (hg : Gl X (Str.ofString n))
    (hdb : (Str.ofString n == ("__debug__" : Str)) = false := by decide) : MX X (XP X) (.Raise (some (.Call (.Name (Str.ofString n) np) [.Constant (.str txt) j cp] [] cpos)) none pos) (jZ n) := fun E => by
  refine PS.imp (Eh O FB hc hg (bG Do cD) hdb) fun En σ H ⟨ρ, σd, hd, rs, q⟩ => ?_
  obtain ⟨c, l, C', h1, h2, h3⟩ := q
  cases h1
  rw [O.bound] at h2; cases h2
  exact ⟨by show 1 ≤ sizeLine; decide, h3 H ρ Ext.refl rs.hp⟩
end
section
variable {P : Program} {w : World} {K : PySem.W.Frag} {mg : Str → Option Value} {base : Heap}
end
end Fm
set_option Elab.async false
set_option linter.all false
set_option maxRecDepth 100000
namespace Fm
open PySem PySem.Spec L2 PyProof.Rows
def kC : V → Value | .ref a => .ref a | .ty n => .type n | _ => .none
def sj : V → Bool | .ref _ => true | .ty _ => true | _ => false
theorem Bm {v : V} {u : Value} (h : sj v = true) (r : bK v u) : u = kC v := by
  cases v <;> first | exact r | cases h
theorem wd : ∀ {vs : List V} {us : List Value}, vs.all sj = true → aP vs us → us = vs.map kC
  | [], _, _, .nil => rfl
  | v :: vs, _, h, .cons r t => by
    rw [List.all_cons, Bool.and_eq_true] at h
    rw [List.map_cons, ← Bm h.1 r, ← wd h.2 t]
section
variable {X : Cx} {pos p : Pos}
def Kb (K : PySem.W.Frag) : List V → Hp → VK → Prop := fun xs H Q => ∃ a C v b, xs = [.ref a, v] ∧ sj v = true ∧ H a = some (ko a C) ∧ m7 K C ∧ PySem.W.kitOne K (.ref C) (kC v) = some b ∧ Q (.bl b) H
theorem Ej : gp X (.builtin "isinstance") (Kb X.K) := by
  rintro pins s σ H xs us Q I r ⟨a, C, v, b, rfl, hc, ha, Z, e, q⟩
  obtain ⟨u, u2, rfl, ru, ru2⟩ := aP.two r
  cases (show u = Value.ref a from ru)
  rw [Bm hc ru2]
  have p0 := (I.hok a _ ha).1
  exact PySem.W.kia_one (Ee Z) I.kIn p0 e (by intro z; cases z) fun tk => ⟨.bl b, H, I.tok tk, rfl, q⟩
def Kc (K : PySem.W.Frag) : List V → Hp → VK → Prop := fun xs H Q => ∃ a C tp vs b, xs = [.ref a, .ref tp] ∧ vs.all sj = true ∧ H a = some (ko a C) ∧ H tp = some (.tup vs) ∧ m7 K C ∧ PySem.W.kitAny K (.ref C) (vs.map kC) = some b ∧ Q (.bl b) H
theorem Ek : gp X (.builtin "isinstance") (Kc X.K) := by
  rintro pins s σ H xs us Q I r ⟨a, C, tp, vs, b, rfl, hc, ha, ht, Z, e, q⟩
  obtain ⟨u, u2, rfl, ru, ru2⟩ := aP.two r
  cases (show u = Value.ref a from ru)
  cases (show u2 = Value.ref tp from ru2)
  have p0 := (I.hok a _ ha).1
  obtain ⟨_, its, rv, o, ho, hcl, n, hd⟩ := I.hok tp _ ht
  have hit := wd hc rv
  subst hit
  obtain ⟨cl, dd, dt, sl⟩ := o
  cases hcl
  cases hd
  exact PySem.W.kia_tup (Ee Z) I.kIn p0 ho e (by intro z; cases z) fun tk => ⟨.bl b, H, I.tok tk, rfl, q⟩
theorem j2 {x : Str} {np : Pos} {a : Addr} {es : List Expr} {vs : List V} (hg : Gl X x) (hm : X.mg x = some (.ref a)) (h : PA X es fun _ H Q => Q vs H) (hd : (x == ("__debug__" : Str)) = false := by decide)
    (hs : starEach (.Name x np :: es) X.env = (false, eval (.Name x np) X.env) :: starEach es X.env := by rfl) : PA X (.Name x np :: es) fun _ H Q => Q (.ref a :: vs) H := bG (tw (v := .ref a) hg hm rfl hd) h hs
theorem FX : PA X [] fun _ H Q => Q [] H := cD
end
end Fm
set_option Elab.async false
set_option linter.all false
set_option maxRecDepth 100000
namespace Fm
open PySem PySem.Spec L2 PyProof.Rows
abbrev Jz : List Value := [.type "ValueError", .type "Exception", .type "BaseException", .type "object"]
theorem El {K : PySem.W.Frag} {h : Heap} {mg : Str → Option Value} {x : Str} {C : Addr} {bm : List Value} {id : String} (X : K.In h) (e : mg x = some (.ref C)) (q : PySem.W.excIn K C bm id = true) : OwnCls x C bm id mg h := by
  refine ⟨e, ?_⟩
  unfold PySem.W.excIn at q; split at q
  · rename_i dd cd sl ho; split at q
    · rename_i C' bm' k0 k1 k2 k3 n k5 hm hs
      simp only [Bool.and_eq_true, beq_iff_eq, Bool.not_eq_true'] at q; obtain ⟨⟨⟨⟨⟨rfl, rfl⟩, hdel⟩, ht⟩, hok⟩, hni⟩ := q
      obtain ⟨nm, bs, mro, ns, qn, hd, sn, sub, ab, col, del⟩ := cd
      dsimp only at hm hdel hok hni; subst hm hdel
      have hsl : sl = #[k0, k1, k2, k3, some (.builtin n), k5] := by obtain ⟨l⟩ := sl; simp only at hs; rw [hs]
      subst hsl
      exact ⟨bm', ns, nm, qn, bs, hd, sn, sub, ab, col, dd, k0, k1, k2, k3, k5, _, X _ _ ho, .of_isNs (PySem.W.isNs_of_in X hok), PySem.W.nsMap_none_of_in X hok hni, PySem.W.tail_of_in X ht⟩
    · cases q
  · cases q
end Fm
namespace Fm
@[simp] noncomputable def we (it : IF) (tg : GF) (b : SF) : SF := fun σ h => match it σ h with
  | .ok (l, g) h => cV g l tg b l σ h
  | _ => .bad
def noX {α : Type} : Res α → Res α
  | .exc _ _ => .bad
  | r => r
def fPl {α : Type} (f : Sd → Hd → Res α) : Sd → Hd → Res α := fun σ h => noX (f σ h)
def sPl (f : SF) : SF := fun σ h => match f σ h with | .exc _ _ _ => .bad | o => o
end Fm
set_option Elab.async false
set_option linter.all false
set_option maxRecDepth 100000
namespace L2
open PySem PySem.Spec PyProof.Rows
theorem JA {X : Cx} {E : XK} {E' : Addr → Hp → Prop} (h : ∀ C H, E (.ref C) none H → E' C H) (hR : ∀ e s', XF X E' e s' → X.xe e s') : nG (CX1 X.prog X.w) X E := by
  intro pins σ H s e s' I q
  have := Jy (X := X) (R := X.xe) h hR pins σ H s e s' (I.wish _) q
  exact this
end L2
namespace Fm
open PySem PySem.Spec L2 PyProof.Rows
section
variable (K : PySem.W.Frag) (mg : Str → Option Value)
def XC (ρ : List Addr) (H : Hp) (E : Addr → Hp → Prop) (x : D) (hd : Hd) : Prop := ∃ c l C, x = .exn c l ∧ mg (Str.ofString c) = some (.ref C) ∧ ∀ H' ρ', Ext ρ H ρ' H' → RH K ρ' H' hd → E C H'
def eV {α β : Type} (R : VR α β) (ρ : List Addr) (H : Hp) (σd : Sd) (σ : L2.St) (r : Res α) (E : Addr → Hp → Prop) (Q : β → Hp → Prop) : Prop := match r with
  | .ok a hd' => ∀ b H' ρ', Ext ρ H ρ' H' → RS K ρ' H' σd hd' σ → R ρ' H' a b → Q b H'
  | .exc x hd' => XC K mg ρ H E x hd'
  | .bad => False
def GV {α β : Type} (R : VR α β) (E : Addr → Hp → Prop) (f : Sd → Hd → Res α) : L2.St → Hp → (β → Hp → Prop) → Prop := fun σ H Q => ∃ ρ σd hd, RS K ρ H σd hd σ ∧ eV K mg R ρ H σd σ (f σd hd) E Q
def spY (F : Fn) (np : Nat) : Sp := fun vs H Q E => ∃ ρ hd ds, RH K ρ H hd ∧ RDs K ρ H ds vs ∧ ds.length = np ∧ match F ds hd with
  | .ok d hd' => ∀ v H' ρ', Ext ρ H ρ' H' → RH K ρ' H' hd' → RD K ρ' H' d v → Q v H'
  | .exc x hd' => XC K mg ρ H (fun C H' => E (.ref C) none H') x hd'
  | .bad => False
end
section
variable {K : PySem.W.Frag} {mg : Str → Option Value} {ρ ρ' : List Addr} {H H' : Hp} {E : Addr → Hp → Prop} {σd : Sd} {σ : L2.St} {hd : Hd} {α β α' β' : Type} {R : VR α β} {R' : VR α' β'}
theorem XC.ext {x : D} (e : Ext ρ H ρ' H') (p : XC K mg ρ H E x hd) : XC K mg ρ' H' E x hd := by
  obtain ⟨c, l, C, h1, h2, h3⟩ := p
  exact ⟨c, l, C, h1, h2, fun H2 ρ2 e2 r => h3 H2 ρ2 (e.trans e2) r⟩
theorem eV.ext {r : Res α} {Q : β → Hp → Prop} (e : Ext ρ H ρ' H') (h : eV K mg R ρ H σd σ r E Q) : eV K mg R ρ' H' σd σ r E Q := by
  cases r with
  | ok a h' => exact fun b H2 ρ2 e2 s q => h b H2 ρ2 (e.trans e2) s q
  | exc x h' => exact XC.ext e h
  | bad => exact h
theorem eV.imp {r : Res α} {Q Q' : β → Hp → Prop} (h : eV K mg R ρ H σd σ r E Q) (i : ∀ b H', Q b H' → Q' b H') : eV K mg R ρ H σd σ r E Q' := by
  cases r with
  | ok a h' => exact fun b H' ρ' e s q => i b H' (h b H' ρ' e s q)
  | exc x h' => exact h
  | bad => exact h
theorem eV.bind {r : Res α} {k : α → Hd → Res α'} {Q : β' → Hp → Prop} (h : eV K mg R' ρ H σd σ (r.bind k) E Q) :
    eV K mg R ρ H σd σ r E (fun b H' => ∃ ρ' a hd', Ext ρ H ρ' H' ∧ RS K ρ' H' σd hd' σ ∧ R ρ' H' a b ∧ eV K mg R' ρ' H' σd σ (k a hd') E Q) := by
  cases r with
  | ok a h' => exact fun b H' ρ' e s q => ⟨ρ', a, h', e, s, q, eV.ext e h⟩
  | exc x h' => exact h
  | bad => exact h
theorem ee.outE {r : Res D} {k : D → Hd → Out} {En : nB} (p : ee K mg ρ H (outE r σd k) E En) :
    eV K mg (rD K) ρ H σd σ r E (fun v H' => ∃ ρ' d hd', Ext ρ H ρ' H' ∧ RS K ρ' H' σd hd' σ ∧ RD K ρ' H' d v ∧ ee K mg ρ' H' (k d hd') E En) := by
  cases r with
  | ok d h' => exact fun b H' ρ' ex rs q => ⟨ρ', d, h', ex, rs, q, ee.ext ex p⟩
  | exc x h' => exact p
  | bad => exact p
theorem eV.of_pl {r : Res α} {Q : β → Hp → Prop} (p : eV K mg R ρ H σd σ (noX r) E Q) : br K R ρ H σd σ r Q := by
  cases r with
  | ok a h' => exact p
  | exc x h' => exact p
  | bad => exact p
end
def NE (X : Cx) (E : Addr → Hp → Prop) (e : Expr) (f : EF) : Prop := PE X e (GV X.K X.mg (rD X.K) E f)
def NA (X : Cx) (E : Addr → Hp → Prop) (es : List Expr) (f : LF) : Prop := PA X es (GV X.K X.mg (rDs X.K) E f)
def NS (X : Cx) (E : Addr → Hp → Prop) (s : Stmt) (f : SF) : Prop := PS X s (wc X.K X.mg E f)
def NSs (X : Cx) (E : Addr → Hp → Prop) (s : List Stmt) (f : SF) : Prop := PSs X s (wc X.K X.mg E f)
structure m8 (P : Program) (w : World) (K : PySem.W.Frag) (mg : Str → Option Value) (base : Heap) (x : Str) (k np : Nat) (F : Fn) : Prop where
  ex : ∃ f fd ps, mg x = some (.ref f) ∧ PySem.W.keepIn K (.ref f) = true ∧ jB K fd ps [] ∧ ce P w K mg base (CX1 P w) k f fd ps (spY K mg F np)
section
variable {X : Cx} {E : Addr → Hp → Prop} {pos p : Pos}
theorem Em {es : List Expr} {f : LF} (h : MA X es f) : NA X E es (fPl f) := PA.imp h fun σ H Q ⟨ρ, σd, hd, rs, q⟩ => ⟨ρ, σd, hd, rs, q.of_pl⟩
theorem t7 {x : Str} {k np : Nat} {F : Fn} {e : Expr} {es : List Expr} {r : LF} (hd : m8 X.prog X.w X.K X.mg X.base x k np F) (hr : gE k X.A) (hg : Gl X x) (ha : NA X E (e :: es) r) (hR : ∀ v s', XF X E v s' → X.xe v s')
    (hnp : ∀ ds h, F ds h ≠ .bad → ds.length = np) (hdb : (x == ("__debug__" : Str)) = false := by decide) (he : starEach (e :: es) X.env = (false, eval e X.env) :: starEach es X.env := by rfl) (hpl : (backTo pos (starEach es X.env)).any (·.1) = false := by rfl) :
    NE X E (.Call (.Name x p) (e :: es) [] pos) (aw F r) := by
  obtain ⟨f, fd, ps, h1, h2, h3, h4⟩ := hd.ex
  refine PE.imp (A0 (E := fun v _ H => ∃ C, v = .ref C ∧ E C H) h4 hr hg h1 h2 h3 .nil (JA (E' := E) (fun C H ⟨C', e, q⟩ => by cases e; exact q) hR) ha hdb he hpl) fun σ H Q ⟨ρ, σd, hd, rs, pp⟩ => ⟨ρ, σd, hd, rs, (eV.bind (R := rDs X.K) pp).imp fun vs H1 ⟨ρ1, ds, hd1, e1, rs1, rv, p1⟩ => ?_⟩
  rw [List.append_nil]
  refine ⟨ρ1, hd1, ds, rs1.hp, rv, ?_, ?_⟩
  · refine hnp ds hd1 fun z => ?_
    rw [z] at p1; exact p1
  · cases c : F ds hd1 with
    | bad => rw [c] at p1; exact p1
    | exc z h' =>
      rw [c] at p1
      obtain ⟨cn, l, C, q1, q2, q3⟩ := p1
      exact ⟨cn, l, C, q1, q2, fun H2 ρ2 e2 r2 => ⟨C, rfl, q3 H2 ρ2 e2 r2⟩⟩
    | ok d hd2 =>
      rw [c] at p1
      exact fun v H' ρ' ex rh rd => p1 v H' ρ' ex (rs1.ext ex rh) rd
theorem t9 {np n : Nat} {b : SF} : ∀ ds h, a8 np n b ds h ≠ .bad → ds.length = np := by
  intro ds h e
  unfold a8 at e
  split at e
  · assumption
  · exact absurd rfl e
theorem wf {s : Stmt} {f : SF} (h : MS X s f) : NS X E s (sPl f) := PS.imp h fun En σ H ⟨ρ, σd, hd, rs, q⟩ => ⟨ρ, σd, hd, rs, by
  unfold sPl at q
  cases e : f σd hd <;> rw [e] at q <;> exact q⟩
theorem Bn : NSs X E [] bS := PSs.imp tz fun En σ H ⟨ρ, σd, hd, rs, p⟩ => p σ H ρ Ext.refl rs
theorem im {st : Stmt} {a : SF} (h : NS X E st a) : NSs X E [st] a := tD h
theorem gZ {st : Stmt} {rest : List Stmt} {a b : SF} (h1 : NS X E st a) (h2 : NSs X E rest b) : NSs X E (st :: rest) (aC a b) := by
  refine PSs.imp (vK h1 h2) fun En σ H ⟨ρ, σd, hd, rs, q⟩ => ⟨ρ, σd, hd, rs, ?_⟩
  unfold aC at q
  cases e : a σd hd with
  | nx σ1 h1 => rw [e] at q; exact fun σ' H' ρ' ex rs' => ⟨ρ', σ1, h1, rs', ee.ext ex q⟩
  | rt d h1 => rw [e] at q; exact q
  | bk σ1 h1 => rw [e] at q; exact q
  | ct σ1 h1 => rw [e] at q; exact q
  | exc x σ1 h1 => rw [e] at q; exact q
  | bad => rw [e] at q; exact q
theorem GW {c : Expr} {a b : List Stmt} {t : TF} {fa fb : SF} (hc : MT X c t) (ha : NSs X E a fa) (hb : NSs X E b fb) : NS X E (.If c a b pos) (pP t fa fb) := by
  refine PS.imp (GK hc ha hb) fun En σ H ⟨ρ, σd, hd, rs, q⟩ => ⟨ρ, σd, hd, rs, ?_⟩
  unfold pP at q
  cases e : t σd hd with
  | exc x h' => rw [e] at q; exact q
  | bad => rw [e] at q; exact q
  | ok c h' =>
    rw [e] at q
    intro b H' ρ' ex rs' hb
    cases hb
    cases c with
    | true => rw [if_pos rfl]; exact ⟨ρ', σd, h', rs', ee.ext ex q⟩
    | false => rw [if_neg Bool.false_ne_true]; exact ⟨ρ', σd, h', rs', ee.ext ex q⟩
theorem Ih {i : Nat} {x : Str} {e : Expr} {f : EF} {pos' : Pos} (hN : X.N.Nodup) (hi : X.N[i]? = some x) (hx : Loc X.env.scope x) (he : NE X E e f) (hs : swapsWith e (some (.Name x pos')) pos.line X.env = pure false := by rfl)
    (hf : X.fn x = true ∨ X.env.scope.names.lookup x = some .local := by first | exact .inl rfl | exact .inr rfl | assumption) : NS X E (.Assign [.Name x pos'] e pos) (aH (gN i) f) := by
  refine PS.imp (x9 hN hi hx he hs hf) fun En σ H ⟨ρ, σd, hd, rs, p⟩ => ⟨ρ, σd, hd, rs, (ee.outE p).imp fun v H1 ⟨ρ1, d, hd1, e1, rs1, rv, p1⟩ => ?_⟩
  exact p1 _ H1 ρ1 Ext.refl ⟨rs1.hp, rs1.st.set i rv⟩
theorem Bp {e : Expr} {f : EF} (h : NE X E e f) (hs : swapsWith e none pos.line X.env = pure false := by rfl) : NS X E (.Expr e pos) (gX f) := by
  refine PS.imp (AY h hs) fun En σ H ⟨ρ, σd, hd, rs, p⟩ => ⟨ρ, σd, hd, rs, (ee.outE p).imp fun v H1 ⟨ρ1, d, hd1, e1, rs1, rv, p1⟩ => ?_⟩
  exact p1 σ H1 ρ1 Ext.refl rs1
end
end Fm
set_option Elab.async false
set_option linter.all false
set_option maxRecDepth 100000
namespace L2
open PySem PySem.Spec PyProof.Rows
section
variable {X : Cx} {E : Addr → Hp → Prop} {e : Value} {s' : Shared} {R : Value → Shared → Prop}
theorem Cov.unwish {pins : List (Addr × Obj)} {H : Hp} {B : Heap} (c : Cov (X.wish R) pins H B) : Cov X pins H B := ⟨c.trk, c.old, c.pin⟩
theorem XF.unwish (h : XF (X.wish R) E e s') : XF X E e s' := by
  obtain ⟨pins, σ, H, a, C, B, t, he, I, fl, c, q⟩ := h
  exact ⟨pins, σ, H, a, C, B, t, he, I.unwish, fl, c.unwish, q⟩
theorem PS.xe {st : Stmt} {t : TS} (hx : ∀ e s', R e s' → X.xe e s') (h : PS (X.wish R) st t) : PS X st t := fun pins s σ H D I hw =>
  wpAny_mono (h pins s σ H D (I.wish _) hw) (fun _ _ q => q.unwish) hx
end
end L2
namespace Fm
open PySem PySem.Spec L2 PyProof.Rows
section
variable {X : Cx} {E : Addr → Hp → Prop} {pos p : Pos}
theorem Ii {tg : Expr} {iter : Expr} {body : List Stmt} {f : IF} {g : GF} {b : SF} (hp : PassesOwn (model X.prog X.w) X.A X.env X.xe) (hc : X.calm = true) (hi : MI X tg iter f) (hg : MG X tg g) (hb : NSs X E body b)
    (hs : ∀ x, foldedSetIterable iter X.env x = pure x := by intro _; rfl) : NS X E (.For tg iter body [] pos) (we f g b) := by
  refine PS.imp (yd hp hc hi hg hb hs) fun En σ H ⟨ρ, σd, hd, rs, p⟩ => ⟨ρ, σd, hd, rs, ?_⟩
  unfold we at p
  cases e : f σd hd with
  | exc x h' => rw [e] at p; exact p
  | bad => rw [e] at p; exact p
  | ok q hd1 =>
    rw [e] at p
    obtain ⟨l, gd⟩ := q
    intro J H1 ρ1 ex1 rs1 wk
    simp only at p wk
    refine ⟨fun i m σ' H' => ∃ ρ' σd' hd', Ext ρ1 H1 ρ' H' ∧ RS X.K ρ' H' σd' hd' σ' ∧ i ≤ l.length ∧ m = l.length - i ∧ ee X.K X.mg ρ' H' (cV gd l g b (l.drop i) σd' hd') E En,
      ⟨l.length, ρ1, σd, hd1, Ext.refl, rs1, Nat.zero_le _, by simp, by simpa using ee.ext ex1 p⟩, ?_⟩
    rintro i m σ' H' ⟨ρ', σd', hd', ex, rs', hil, rfl, pp⟩
    by_cases hlt : i < l.length
    · have hdi : l[i]? = some l[i] := by simp [hlt]
      rw [List.drop_eq_getElem_cons hlt] at pp
      unfold cV at pp
      by_cases hh : gm gd l hd'
      · rw [if_pos hh] at pp
        obtain ⟨go, yl⟩ := wk.go ρ' H' hd' i _ ex rs'.hp hh hdi
        refine .inr ⟨go, fun σ2 H2 => ∃ ρ2 σd2 hd2, Ext ρ1 H1 ρ2 H2 ∧ RS X.K ρ2 H2 σd2 hd2 σ2 ∧ ee X.K X.mg ρ2 H2 (cV gd l g b (l.drop (i + 1)) σd2 hd2) E En,
          fun σ2 H2 ⟨ρ2, σd2, hd2, a1, a2, a3⟩ => ⟨l.length - (i + 1), by omega, ρ2, σd2, hd2, a1, a2, hlt, rfl, a3⟩, fun x H2 y => ?_⟩
        obtain ⟨sm, rx⟩ := yl x H2 y
        cases c : g l[i] σd' with
        | none => rw [c] at pp; exact pp.elim
        | some σd2 =>
          rw [c] at pp
          simp only at pp
          refine ⟨ρ', σd', hd', l[i], σd2, rs'.same sm, rx, c, fun σ2 rs2 => ⟨ρ', σd2, hd', rs2, ?_⟩⟩
          have e12 : Ext ρ' H' ρ' H2 := Ext.same sm
          cases c2 : b σd2 hd' with
          | nx σ3 h3 => rw [c2] at pp; exact fun σ4 H4 ρ4 ex4 rs4 => ⟨ρ4, σ3, h3, ex.trans (e12.trans ex4), rs4, ee.ext (e12.trans ex4) pp⟩
          | ct σ3 h3 => rw [c2] at pp; exact fun σ4 H4 ρ4 ex4 rs4 => ⟨ρ4, σ3, h3, ex.trans (e12.trans ex4), rs4, ee.ext (e12.trans ex4) pp⟩
          | bk σ3 h3 => rw [c2] at pp; exact fun σ4 H4 ρ4 ex4 rs4 => pp σ4 H4 ρ4 (e12.trans ex4) rs4
          | rt d h3 => rw [c2] at pp; exact fun v H4 ρ4 ex4 rs4 rv => pp v H4 ρ4 (e12.trans ex4) rs4 rv
          | exc x σ3 h3 => rw [c2] at pp; exact ee.ext (o := .exc x σ3 h3) e12 pp
          | bad => rw [c2] at pp; exact pp
      · rw [if_neg hh] at pp; exact pp.elim
    · have e0 : i = l.length := by omega
      subst e0
      rw [List.drop_length] at pp
      unfold cV at pp
      by_cases hh : gm gd l hd'
      · rw [if_pos hh] at pp
        exact .inl ⟨wk.stop ρ' H' hd' ex rs'.hp hh, pp σ' H' ρ' Ext.refl rs'⟩
      · rw [if_neg hh] at pp; exact pp.elim
theorem wg {n : String} {C : Addr} {bm : List Value} {B newId initId : String} {np cpos cp : Pos} {txt : Str} {j} (O : OwnCls (Str.ofString n) C bm newId X.mg X.base) (FB : ExcBaseFacts B newId initId bm) (hc : X.calm = true) (hg : Gl X (Str.ofString n)) (hx : ∀ e s', XP X E e s' → X.xe e s')
    (hdb : (Str.ofString n == ("__debug__" : Str)) = false := by decide) : NS X E (.Raise (some (.Call (.Name (Str.ofString n) np) [.Constant (.str txt) j cp] [] cpos)) none pos) (jZ n) := PS.xe hx (Ei O FB hc hg hdb E)
end
section
variable {P : Program} {w : World} {K : PySem.W.Frag} {mg : Str → Option Value} {base : Heap}
def wj (K : PySem.W.Frag) (mg : Str → Option Value) (ρ : List Addr) (H : Hp) (r : Res D) (E : XK) (Q : VK) : Prop := match r with
  | .ok d hd' => ∀ v H' ρ', Ext ρ H ρ' H' → RH K ρ' H' hd' → RD K ρ' H' d v → Q v H'
  | .exc x hd' => XC K mg ρ H (fun C H' => E (.ref C) none H') x hd'
  | .bad => False
theorem wj.letGo {ρ : List Addr} {H : Hp} {hd : Hd} {r : Res D} {E : XK} {Q : VK} (rh : RH K ρ H hd) (p : wj K mg ρ H (letGo hd r) E Q) : wj K mg ρ H r E Q := by
  cases r with
  | exc x h' => exact p
  | bad => exact p
  | ok d h' =>
    have q : kx K ρ H (Fm.letGo hd (.ok d h')) Q := by
      simp only [Fm.letGo] at p ⊢
      split at p <;> rename_i c
      · rw [if_pos c]; exact p
      · rw [if_neg c]; exact p
    exact kx.letGo rh q
theorem yB {x : Str} {st : Stmt} {f : Addr} {fd : FuncData} {N ps : List Str} {k : Nat} {b : SF} (F : Fun K x x st f fd) (S : aR N ps (aj st))
    (body : ∀ (cdv : Value) (A : Around) (outer : List Env) (s : Shared) (H : Hp) (E : XK), gE k (A.deeper (envOfC x (aj st) s.heap.objs.size f cdv)) →
      NSs (mW (CX1 P w) P w K mg base N x (aj st) f cdv A outer s H E) (fun C H' => E (.ref C) none H') (aN st) b) :
    ce P w K mg base (CX1 P w) (k + 1) f fd ps (spY K mg (a8 ps.length N.length b) ps.length) := by
  obtain ⟨oc, od, kV, doc, pm, an, cdv, ct, osl, rfl, lk, hcd⟩ := F.ex
  refine GO lk hcd S (fun vs H Q E ⟨ρ, hd, ds, rh, rd, hl, p⟩ => by rw [← rd.length]; exact hl) fun A outer s H vs Q E hr ⟨ρ, hd, ds, rh, rd, hl, p⟩ => ⟨_, body cdv A outer s H E hr, ρ, _, hd, ⟨rh, r6 rd⟩, ?_⟩
  have p0 : wj K mg ρ H (a8 ps.length N.length b ds hd) E Q := p
  unfold a8 at p0
  rw [if_pos hl] at p0
  have p1 := wj.letGo rh p0
  unfold runB at p1
  cases e2 : b (ds.map some ++ List.replicate (N.length - ds.length) none) hd with
  | nx σ1 h1 => rw [e2] at p1; exact fun σ' H' ρ' ex rs' => p1 .non H' ρ' ex rs'.hp (by simp only [RD])
  | rt d h1 => rw [e2] at p1; exact p1
  | bk _ _ => rw [e2] at p1; exact p1.elim
  | ct _ _ => rw [e2] at p1; exact p1.elim
  | bad => rw [e2] at p1; exact p1.elim
  | exc y σ1 h1 => rw [e2] at p1; exact p1
theorem m8.mk' {x : Str} {f : Addr} {fd : FuncData} {ps : List Str} {k np : Nat} {F : Fn} (hm : mg x = some (.ref f)) (hk : PySem.W.keepIn K (.ref f) = true) (hb : jB K fd ps []) (h : ce P w K mg base (CX1 P w) k f fd ps (spY K mg F np)) : m8 P w K mg base x k np F := ⟨f, fd, ps, hm, hk, hb, h⟩
end
end Fm
set_option Elab.async false
set_option linter.all false
set_option maxRecDepth 100000
namespace Fm
open PySem PySem.Spec L2 PyProof.Rows
section
variable {X : Cx} {pos p : Pos}
end
end Fm
namespace Fm
def wm (n i : Nat) (cs : List String) (b : SF) : SF := fun σ h => match b σ h with
  | .nx σ' h' => .nx σ' h'
  | .exc (.exn c []) _ h' => if c ∈ cs then .nx ((List.replicate n none).set i (some (.exn c []))) h' else .bad
  | _ => .bad
def isX (tb : List (String × Bool)) : D → Option Bool
  | .exn c _ => tb.lookup c
  | _ => none
def m9 (tb : List (String × Bool)) (a : EF) : EF := fun σ h => (a σ h).bind fun x h => match isX tb x with | some b => .ok (.bl b) h | none => .bad
def sk (x e : EF) : EF := fun σ h => (x σ h).bind fun p h => match p with
  | .ref n => match h[n]? with
    | some (.lst _) => (e σ h).bind fun j h => match j with
      | .bl j => match h[n]? with
        | some (.lst l) => match my l with
          | some xs => if j ∈ xs ∧ xs.length ≤ 1000 then .ok (.int (xs.idxOf j : Nat)) h else .bad
          | none => .bad
        | _ => .bad
      | _ => .bad
    | _ => .bad
  | _ => .bad
end Fm
set_option Elab.async false
set_option linter.all false
set_option maxRecDepth 100000
namespace L2
open PySem PySem.Spec PyProof.Rows
def JB (K : PySem.W.Frag) (M : Addr) (i L : Nat) (tb : (Addr → Hp → Prop) → TS) : TS := fun D σ H => ∃ E : Addr → Hp → Prop, tb E { nx := D.nx, rt := fun _ _ => False } σ H ∧
  ∀ C H' a σ', E C H' → H' a = none → σ'.length = L → σ'[i]? = some (some (.ref a)) → PySem.W.subIn K (.ref C) (.ref M) = some true ∧ D.nx σ' (upd H' a (ko a C))
section
variable {X : Cx} {body : List Stmt} {x n c : Str} {M : Addr} {i j : Nat} {np cp vp ap hp pos : Pos} {tb : (Addr → Hp → Prop) → TS}
theorem B9 (hb : ∀ q E, PSs ((X.pin q).wish (XF (X.pin q) E)) body (tb E)) (hxe : X.xe = fun _ _ => False) (hstk : X.stack = X.env :: X.outer) (hfr : X.env.frame = some X.env.locals) (hm : X.mg x = some (.ref M)) (hg : Gl X x)
    (hbe : PySem.W.subIn X.K (.ref M) (.type "BaseException") = some true) (his : (PySem.W.clsIn X.K M).isSome = true) (hty : PySem.W.typeIn X.K (.ref M) = some (.type "type")) (hN : X.N.Nodup) (hij : i ≠ j) (hj : X.N[j]? = some n) (hjl : X.env.scope.names.lookup n = some .local)
    (hi : X.N[i]? = some c) (hil : X.env.scope.names.lookup c = some .local) (hdb : (x == ("__debug__" : Str)) = false := by decide) (hd1 : (n == ("__debug__" : Str)) = false := by decide) (hd2 : (n == ("__classdict__" : Str)) = false := by decide)
    (hs : swapsWith (.Name n vp) (some (.Name c cp)) ap.line X.env = pure false := by rfl) :
    PS X (.Try body [.ExceptHandler (some (.Name x np)) (some n) [.Assign [.Name c cp] (.Name n vp) ap] hp] [] [] pos) (JB X.K M i X.N.length tb) := by
  rintro pins s σ H D I ⟨E, h1, h2⟩
  refine wpAny_Try_except (wpAny_mono (hb (X.pn ++ pins) E [] s σ H _ ((I.pinq).wish _) h1) (fun f s1 q => ?_) (fun e s1 q => ?_))
  · cases f with
    | next => obtain ⟨σ1, H1, J, q⟩ := q; exact tz pins s1 σ1 H1 D J.unwish.unpin q
    | brk => obtain ⟨_, _, _, q⟩ := q; exact q.elim
    | cont => obtain ⟨_, _, _, q⟩ := q; exact q.elim
    | ret u => obtain ⟨_, _, _, _, _, q⟩ := q; exact q.elim
  · obtain ⟨pins', σ', H', a, C, B, t, rfl, J, fl, cv, q⟩ := q
    have hf : X.A.frames = some (X.env :: X.outer) := by rw [← hstk]; exact I.ok.frames
    have fl' : Heap.FlyingW B (X.env :: X.outer) a (.ref C) (.ref t) s1.heap := by rw [← hstk]; exact fl
    have hn : H' a = none := by
      cases e : H' a with
      | none => rfl
      | some u => obtain ⟨o, z⟩ := cv.trk a u e; rw [fl.2.1] at z; cases z
    refine wpAny_looks_onW hf hfr fl' fun h4 hl4 sm4 => wpAny_landsW hl4 fun h5 fl5 sm5 => ?_
    have J5 := J.flown (h' := h5) fl.1 fl5.1 (sm4.trans sm5) cv s1.toks
    obtain ⟨oe, vs, hoe, hcl, hdt, _⟩ := fl5.first
    have hw : ∀ σ'', σ''.length = X.N.length → σ''[i]? = some (some (.ref a)) → PySem.W.subIn X.K (.ref C) (.ref M) = some true ∧ D.nx σ'' (upd H' a (ko a C)) := fun σ'' e1 e2 => h2 C H' a σ'' q hn e1 e2
    have hls : σ'.length = X.N.length := J.len
    have hit : i < X.N.length := (List.getElem?_eq_some_iff.mp hi).1
    have hsub : PySem.W.subIn X.K (.ref C) (.ref M) = some true := (hw (σ'.set i (some (.ref a))) (by simpa using hls) (by rw [List.getElem?_set_self (by omega)])).1
    refine wpAny_handleBy_cons (codeAny_handlers_test (Calls.Name_function_global J.ok.kind hg (Calls.loadGlobal_global (by rw [J.ok.glob]; exact J5.mod.glob.keeps J5.bk) hm ?_) hdb)) (by intro q; cases q)
    refine Ef J5.kIn ⟨hoe, hcl⟩ hsub hbe his hty (codeAny_handlers_suite_as ?_)
    refine lands_againW fl5 fun h6 fl6 sm6 => ?_
    have J6 := J5.flown (h' := h6) fl5.1 fl6.1 sm6 cv s1.toks
    have J7 := J6.exc (by rw [show (X.pin (X.pn ++ pins)).stack = X.env :: X.outer from hstk]; exact fl6) cv
    refine km (X := X.pin (X.pn ++ pins)) J7 hN hj (.inl hjl) (v := .ref a) rfl (fun s8 J8 => ?_) (.inr hjl)
    have ps : PSs ((X.pin (X.pn ++ pins)).sui a) [.Assign [.Name c cp] (.Name n vp) ap] (Hk (IS j) (Dq i)) := tD (x9 hN hi (.inl hil) (Dn hj (.inl hjl) hd1 hd2) hs (.inr hil))
    refine wpAny_mono (ps pins' s8 _ _ { nx := fun σ9 H9 => σ9 = (σ'.set j (some (.ref a))).set i (some (.ref a)) ∧ H9 = upd H' a (ko a C), rt := fun _ _ => False } (J8.marked a) ⟨.ref a, by rw [List.getElem?_set_self (by rw [J.len]; exact (List.getElem?_eq_some_iff.mp hj).1)], rfl, rfl⟩) (fun f s9 q => ?_) (fun _ _ z => z.elim)
    cases f with
    | brk => obtain ⟨_, _, _, q⟩ := q; exact q.elim
    | cont => obtain ⟨_, _, _, q⟩ := q; exact q.elim
    | ret u => obtain ⟨_, _, _, _, _, q⟩ := q; exact q.elim
    | next =>
      obtain ⟨σ9, H9, J9, rfl, rfl⟩ := q
      refine Inv.goes (X := X.pin (X.pn ++ pins)) (J9.unmark I.ok.hd) hN hj hjl fun s10 J10 => ⟨_, _, J10.unpin, (hw _ ?_ ?_).2⟩
      · simpa using hls
      · rw [List.getElem?_set_ne (Ne.symm hij), List.getElem?_set_self (by simp only [List.length_set]; omega)]
end
end L2
namespace Fm
open PySem PySem.Spec L2 PyProof.Rows
def lH (K : PySem.W.Frag) (f : Addr → Bool → Prop) (tb : List (String × Bool)) : Prop := ∀ c b, (c, b) ∈ tb → ∃ C, PySem.W.nsIn K mainGlobals (Str.ofString c) = some (some (.ref C)) ∧ m7 K C ∧ f C b
theorem ua {K : PySem.W.Frag} {f : Addr → Bool → Prop} : lH K f [] := fun _ _ h => absurd h (List.not_mem_nil)
theorem gx {K : PySem.W.Frag} {f : Addr → Bool → Prop} {c : String} {b : Bool} {tb : List (String × Bool)} {C : Addr} (n : PySem.W.nsIn K mainGlobals (Str.ofString c) = some (some (.ref C))) (Z : m7 K C) (k : f C b) (r : lH K f tb) : lH K f ((c, b) :: tb) := fun c' b' h => by
  rcases List.mem_cons.mp h with e | e
  · cases e; exact ⟨C, n, Z, k⟩
  · exact r c' b' e
theorem j3 {c : String} {b : Bool} : ∀ {tb : List (String × Bool)}, tb.lookup c = some b → (c, b) ∈ tb
  | [], h => by cases h
  | (c', b') :: r, h => by
    rw [List.lookup_cons] at h
    cases e : c == c' with
    | true =>
      rw [e] at h
      have := eq_of_beq e
      subst this
      cases h
      exact List.mem_cons_self
    | false => rw [e] at h; exact List.mem_cons_of_mem _ (j3 h)
def Ca (K : PySem.W.Frag) (mg : Str → Option Value) (M : Addr) (cs : List String) : Prop := ∀ c ∈ cs, ∃ C, mg (Str.ofString c) = some (.ref C) ∧ PySem.W.nsIn K mainGlobals (Str.ofString c) = some (some (.ref C)) ∧ PySem.W.subIn K (.ref C) (.ref M) = some true
theorem Ij {K : PySem.W.Frag} {mg : Str → Option Value} {M : Addr} : Ca K mg M [] := fun _ h => absurd h (List.not_mem_nil)
theorem Bq {K : PySem.W.Frag} {mg : Str → Option Value} {M C : Addr} {c : String} {cs : List String} (g : mg (Str.ofString c) = some (.ref C)) (n : PySem.W.nsIn K mainGlobals (Str.ofString c) = some (some (.ref C))) (s : PySem.W.subIn K (.ref C) (.ref M) = some true) (r : Ca K mg M cs) : Ca K mg M (c :: cs) := fun c' h => by
  rcases List.mem_cons.mp h with e | e
  · subst e; exact ⟨C, g, n, s⟩
  · exact r c' e
section
variable {X : Cx} {pos p : Pos}
theorem Ik {i j L : Nat} {c n x : Str} {M : Addr} {tb : List Stmt} {bt : SF} {cs : List String} {np cp vp ap hp : Pos} (hL : X.N.length = L) (hxe : X.xe = fun _ _ => False) (hb : ∀ q, MXs (X.pin q) (XF (X.pin q)) tb bt) (hstk : X.stack = X.env :: X.outer)
    (hfr : X.env.frame = some X.env.locals) (hm : X.mg x = some (.ref M)) (hg : Gl X x) (hbe : PySem.W.subIn X.K (.ref M) (.type "BaseException") = some true) (his : (PySem.W.clsIn X.K M).isSome = true)
    (hty : PySem.W.typeIn X.K (.ref M) = some (.type "type")) (hN : X.N.Nodup) (hij : i ≠ j) (hj : X.N[j]? = some n) (hjl : X.env.scope.names.lookup n = some .local) (hi : X.N[i]? = some c) (hil : X.env.scope.names.lookup c = some .local)
    (hcs : Ca X.K X.mg M cs)
    (hdb : (x == ("__debug__" : Str)) = false := by decide) (hd1 : (n == ("__debug__" : Str)) = false := by decide) (hd2 : (n == ("__classdict__" : Str)) = false := by decide)
    (hs : swapsWith (.Name n vp) (some (.Name c cp)) ap.line X.env = pure false := by rfl) :
    MS X (.Try tb [.ExceptHandler (some (.Name x np)) (some n) [.Assign [.Name c cp] (.Name n vp) ap] hp] [] [] pos) (wm L i cs bt) := by
  refine PS.imp (B9 (tb := fun E => wc X.K X.mg E bt) (fun q E => hb q E) hxe hstk hfr hm hg hbe his hty hN hij hj hjl hi hil hdb hd1 hd2 hs) fun En σ H ⟨ρ, σd, hd, rs, pp⟩ => ?_
  unfold wm at pp
  cases e : bt σd hd with
  | nx σ1 h1 => rw [e] at pp; exact ⟨fun _ _ => False, ⟨ρ, σd, hd, rs, by rw [e]; exact pp⟩, fun _ _ _ _ z => z.elim⟩
  | rt _ _ => rw [e] at pp; exact pp.elim
  | bk _ _ => rw [e] at pp; exact pp.elim
  | ct _ _ => rw [e] at pp; exact pp.elim
  | bad => rw [e] at pp; exact pp.elim
  | exc y σ1 h1 =>
    rw [e] at pp
    cases y with
    | exn cn l =>
      cases l with
      | cons _ _ => exact pp.elim
      | nil =>
        simp only at pp
        split at pp
        · rename_i hcn
          obtain ⟨C, m1, m2, m3⟩ := hcs cn hcn
          refine ⟨fun C' H' => C' = C ∧ ∃ ρ', Ext ρ H ρ' H' ∧ RH X.K ρ' H' h1, ⟨ρ, σd, hd, rs, by rw [e]; exact ⟨cn, [], C, rfl, m1, fun H' ρ' ex r => ⟨rfl, ρ', ex, r⟩⟩⟩, ?_⟩
          rintro C' H' a σ' ⟨rfl, ρ', ex, r⟩ hn hl hi'
          refine ⟨m3, pp σ' _ ρ' (ex.sm (bT hn)) ⟨r.same (bT hn), ?_, fun k d hk => ?_⟩⟩
          · rw [List.length_set, List.length_replicate, hl, hL]
          · by_cases hki : k = i
            · subst hki
              have hlt : k < L := by rw [← hL]; exact (List.getElem?_eq_some_iff.mp hi).1
              simp only [slot, List.getElem?_set_self (show k < (List.replicate L (none : Option D)).length by rw [List.length_replicate]; exact hlt)] at hk
              cases hk
              exact ⟨.ref a, hi', by simp only [RD]; exact ⟨trivial, a, C', rfl, bh, m2⟩⟩
            · exfalso
              simp only [slot, List.getElem?_set_ne (Ne.symm hki)] at hk
              by_cases hlt : k < L
              · rw [List.getElem?_replicate_of_lt hlt] at hk; cases hk
              · rw [List.getElem?_eq_none (by rw [List.length_replicate]; omega)] at hk; cases hk
        · exact pp.elim
    | _ => exact pp.elim
theorem ub {tb : List (String × Bool)} {a : Expr} {fa : EF} {n : Str} {p2 : Pos} {v : V} (hc : sj v = true) (hg : Gl X "isinstance") (hm : X.mg "isinstance" = none) (hv : PE X (.Name n p2) (tC v))
    (htb : lH X.K (fun C b => PySem.W.kitOne X.K (.ref C) (kC v) = some b) tb) (ha : ME X a fa)
    (hs : starEach [a, .Name n p2] X.env = (false, eval a X.env) :: starEach [.Name n p2] X.env := by rfl) (hs2 : starEach [.Name n p2] X.env = (false, eval (.Name n p2) X.env) :: starEach [] X.env := by rfl) :
    ME X (.Call (.Name "isinstance" p) [a, .Name n p2] [] pos) (m9 tb fa) := by
  refine PE.imp (gS Ej hg hm (by decide +kernel) (bG ha (bG hv cD hs2) hs) (he := hs)) fun σ H Q ⟨ρ, σd, hd, rs, pp⟩ => ⟨ρ, σd, hd, rs, (br.bind (R := rD X.K) pp).imp fun v1 H1 ⟨ρ1, d, hd1, e1, rs1, rv, p1⟩ => ?_⟩
  cases d <;> try exact p1.elim
  rename_i c l
  simp only [isX] at p1
  cases e : tb.lookup c with
  | none => rw [e] at p1; exact p1.elim
  | some b =>
    rw [e] at p1
    simp only [rD, RD] at rv
    obtain ⟨rfl, q, C, rfl, hq, hn⟩ := rv
    obtain ⟨C', n', Z, k⟩ := htb c b (j3 e)
    rw [hn] at n'
    cases n'
    exact ⟨q, C, v, b, rfl, hc, hq, Z, k, p1.here rs1 (by simp only [rD, RD])⟩
theorem FY {tb : List (String × Bool)} {a : Expr} {fa : EF} {ns : List Expr} {kt} {p2 : Pos} {vs : List V} (hns : PA X ns fun _ H Q => Q vs H) (hvs : vs.all sj = true) (hlen : vs.length ≤ sizeLine) (hg : Gl X "isinstance") (hm : X.mg "isinstance" = none)
    (htb : lH X.K (fun C b => PySem.W.kitAny X.K (.ref C) (vs.map kC) = some b) tb) (ha : ME X a fa)
    (hs : starEach [a, .Tuple ns kt p2] X.env = (false, eval a X.env) :: starEach [.Tuple ns kt p2] X.env := by rfl) (hs2 : starEach [.Tuple ns kt p2] X.env = (false, eval (.Tuple ns kt p2) X.env) :: starEach [] X.env := by rfl) :
    ME X (.Call (.Name "isinstance" p) [a, .Tuple ns kt p2] [] pos) (m9 tb fa) := by
  refine PE.imp (gS Ek hg hm (by decide +kernel) (bG ha (bG (DA hns) cD hs2) hs) (he := hs)) fun σ H Q ⟨ρ, σd, hd, rs, pp⟩ => ⟨ρ, σd, hd, rs, (br.bind (R := rD X.K) pp).imp fun v1 H1 ⟨ρ1, d, hd1, e1, rs1, rv, p1⟩ => ?_⟩
  refine ⟨hlen, fun tp hnt => ?_⟩
  cases d <;> try exact p1.elim
  rename_i c l
  simp only [isX] at p1
  cases e : tb.lookup c with
  | none => rw [e] at p1; exact p1.elim
  | some b =>
    rw [e] at p1
    simp only [rD, RD] at rv
    obtain ⟨rfl, q, C, rfl, hq, hn⟩ := rv
    obtain ⟨C', n', Z, k⟩ := htb c b (j3 e)
    rw [hn] at n'
    cases n'
    have hq2 : upd H1 tp (.tup vs) q = some (ko q C) := by rw [aD (aG hq hnt)]; exact hq
    have sm : jS H1 (upd H1 tp (.tup vs)) := bT hnt
    exact ⟨q, C, tp, vs, b, rfl, hvs, hq2, bh, Z, k, p1.at (Ext.same sm) (rs1.same sm) (by simp only [rD, RD])⟩
end
end Fm
set_option Elab.async false
set_option linter.all false
set_option maxRecDepth 100000
namespace Fm
open PySem PySem.Spec L2
section
variable {X : Cx}
def FZ : V → List V → Hp → VK → Prop := fun x vs H Q => ∃ (l : Addr) (ns : List Bool) (j : Bool), x = .ref l ∧ vs = [.bl j] ∧ H l = some (.lst (ns.map V.bl)) ∧ j ∈ ns ∧ ns.length ≤ 1000 ∧ Q (.int (ns.idxOf j : Nat)) H
theorem Cb : MtM X "list.index" FZ := by
  intro pins s σ H x vs v us Q I rx rv h
  obtain ⟨l, ns, j, rfl, rfl, hH, hj, hz, q⟩ := h
  cases rx
  obtain ⟨u, rfl, ru⟩ := rv.one
  cases (show u = Value.bool j from ru)
  obtain ⟨z, its, n, r, hl, e⟩ := I.lstM hH
  have at' : ∀ (i : Nat) (hi : i < its.length), ∃ y, ns[i]? = some y ∧ its[i] = .bool y := fun i hi => by
    have hi2 : i < ns.length := by have := r.length; simp at this; omega
    obtain ⟨w, hw, rw'⟩ := r.get (i := i) (x := .bl ns[i]) (by simp [hi2])
    cases (show w = Value.bool ns[i] from rw')
    refine ⟨ns[i], by simp [hi2], ?_⟩
    have := List.getElem?_eq_getElem hi
    rw [this] at hw
    exact Option.some.inj hw
  have hlen : its.length = ns.length := by have := r.length; simpa using this.symm
  have hid : ns.idxOf j < ns.length := List.idxOf_lt_length_of_mem hj
  refine call_meets F.slot_list_index ⟨_, e, rfl⟩ F.entry_list_index (F.args_list_index_2 _ _)
    (SeqAt.list_indexAt l its.toArray n none #[] (.bool j) (fun y => match y with | .bool x => x == j | _ => false) (ns.idxOf j) (by simp; omega) (by omega) ?_ (fun m hm hlt => ?_)) ⟨e, fun y hy => ?_, ?_⟩
  · obtain ⟨y, e1, e2⟩ := at' (ns.idxOf j) (by omega)
    simp only [List.getElem_toArray, e2]
    have : ns[ns.idxOf j]? = some j := by rw [List.getElem?_eq_getElem hid, List.getElem_idxOf hid]
    rw [this] at e1
    cases e1
    simp
  · obtain ⟨y, e1, e2⟩ := at' m (by simpa using hm)
    simp only [List.getElem_toArray, e2]
    have hne : y ≠ j := fun z => by
      subst z
      have h1 : m < ns.length := (List.getElem?_eq_some_iff.mp e1).1
      have h2 := List.not_of_lt_findIdx (p := (· == y)) (xs := ns) (i := m) (by exact hlt)
      have h3 : ns[m] = y := (List.getElem?_eq_some_iff.mp e1).2
      simp [h3] at h2
    simp [hne]
  · obtain ⟨i, hi, rfl⟩ := List.getElem_of_mem (by simpa using hy : y ∈ its)
    obtain ⟨y, _, e2⟩ := at' i hi
    rw [e2]
    exact SeqAt.EqAt.bool_bool _ _
  · exact ⟨.int (ns.idxOf j : Nat), H, I.tok _, ⟨_, rfl⟩, q⟩
theorem F1 {o e : Expr} {fo fe : EF} {apos cpos : Pos} (ho : ME X o fo) (he : ME X e fe) (hbase : attributeBase o "index" X.env (eval o X.env) = eval o X.env := by rfl)
    (hfew : ((backTo cpos (starEach [e] X.env)).all (fun x => !x.1) && (backToKw cpos (keywordEach [] X.env)).all (fun x => x.1.isSome)
      && decide (([e] : List Expr).length + ([] : List Keyword).length + (if ([] : List Keyword).isEmpty then 0 else 1) < 30)) = true := by rfl)
    (hline : (apos.endLine == cpos.line) = true := by rfl) (hs : starEach [e] X.env = (false, eval e X.env) :: starEach [] X.env := by rfl) :
    ME X (.Call (.Attribute o "index" apos) [e] [] cpos) (sk fo fe) := by
  refine PE.imp (A5 PySem.F.plainAttrs_list PySem.F.slot_list_index PySem.F.type_list_index Cb ho (bG he cD hs) hbase hfew hline hs) fun σ H Q ⟨ρ, σd, hd, rs, pp⟩ => ⟨ρ, σd, hd, rs, ?_⟩
  unfold sk at pp
  refine (br.bind (R := rD X.K) pp).imp fun v H1 ⟨ρ1, d, hd1, e1, rs1, rv, p1⟩ => ?_
  cases d <;> try exact p1.elim
  rename_i n
  simp only [rD, RD] at rv
  obtain ⟨a, ha, rfl⟩ := rv
  simp only at p1
  cases c1 : hd1[n]? with
  | none => rw [c1] at p1; exact p1.elim
  | some cell1 =>
    rw [c1] at p1
    cases cell1 with
    | dct l => exact p1.elim
    | lst l1 =>
      obtain ⟨vs, hv, _⟩ := rs1.hp.cel n _ a c1 ha
      simp only at p1
      refine ⟨.inl ⟨rfl, vs, SqL.of hv⟩, ρ1, σd, hd1, rs1, (br.bind (R := rD X.K) p1).imp fun w H2 ⟨ρ2, k, hd2, e2, rs2, rw', p2⟩ => ?_⟩
      cases k <;> try exact p2.elim
      rename_i j
      simp only [rD, RD] at rw'
      subst rw'
      simp only at p2
      cases c : hd2[n]? with
      | none => rw [c] at p2; exact p2.elim
      | some cell =>
        rw [c] at p2
        cases cell with
        | dct l => exact p2.elim
        | lst l =>
          simp only at p2
          cases ci : my l with
          | none => rw [ci] at p2; exact p2.elim
          | some ns =>
            rw [ci] at p2
            simp only at p2
            split at p2
            · rename_i hz
              obtain ⟨vs2, hv2, rvs2⟩ := rs2.hp.cel n _ a c (e2.get ha)
              have hvs := sh rvs2 ci
              subst hvs
              exact ⟨a, ns, j, rfl, rfl, hv2, hz.1, hz.2, p2.here rs2 (by simp only [rD, RD])⟩
            · exact p2.elim
end
end Fm
namespace Fm
theorem sr {h h' : Hd} {d : D} (e : h'.length ≤ h.length) : letGo h (.ok d h') = .ok d h' := by
  simp only [letGo]; split
  · rw [List.take_of_length_le e]
  · rfl
@[simp] theorem aU {h : Hd} {d : D} : letGo h (.ok d h) = .ok d h := sr (Nat.le_refl _)
@[simp] theorem IQ {h : Hd} {d : D} {n : Nat} {c : bL} : letGo h (.ok d (h.set n c)) = .ok d (h.set n c) := sr (by simp)
theorem Cc {h h' : Hd} {d : D} (e : pure? d = false) : letGo h (.ok d h') = .ok d h' := by
  simp [letGo, e]
@[simp] theorem n6 {h h' : Hd} {n : Nat} : letGo h (.ok (.ref n) h') = .ok (.ref n) h' := Cc rfl
theorem el {h g : Hd} {d : D} (e : pure? d = true) : letGo h (.ok d (h ++ g)) = .ok d h := by
  have : A6 h (h ++ g) := fun n c hn hc => .inl (by rwa [List.getElem?_append_left hn] at hc)
  simp [letGo, e, this]
theorem su {h h' g : Hd} {d : D} (e : pure? d = true) (hl : h'.length = h.length) (ho : A6 h (h' ++ g)) : letGo h (.ok d (h' ++ g)) = .ok d h' := by
  simp [letGo, e, ho, ← hl]
structure Web where
  ties : List (List (Nat × Int))
  bars : List Int
  stays : List (Option Int)
def bF : Option Int → D
  | none => .non
  | some i => .int i
def cr (p : Nat × Int) : D := .tup [.int p.1, .int p.2]
def kD (r : List (Nat × Int)) : D := .tup (r.map cr)
def aB (l : List Int) : D := .tup (l.map .int)
def Web.enc (w : Web) : D := .tup [.tup (w.ties.map kD), .tup (w.bars.map .int), .tup (w.stays.map bF)]
structure Web.Ok (w : Web) (n : Nat) : Prop where
  t : w.ties.length = n
  b : w.bars.length = n
  s : w.stays.length = n
  lt : ∀ r ∈ w.ties, ∀ p ∈ r, p.1 < n
  sz : n ≤ 1000
structure cW (w : Web) (n : Nat) (s : List Int) : Prop where
  len : s.length = n
  op : ∀ x ∈ s, x = 0 ∨ x = 1
  st : ∀ (i : Nat) (x : Int), w.stays[i]? = some (some x) → s[i]? = some x
theorem da {l : List D} {i : Nat} {d : D} (e : l[i]? = some d) : atI l (i : Int) = some d := by
  have := (List.getElem?_eq_some_iff.mp e).1
  simp [atI, ixN, this]
  simpa [List.getElem?_eq_getElem this] using e
@[simp] theorem Ke (x : D) (l : List D) : atI (x :: l) 0 = some x := da (i := 0) rfl
@[simp] theorem Kf (x y z : D) (l : List D) : atI (x :: y :: z :: l) 2 = some z := da (i := 2) rfl
theorem bM {g : Option Nat} {all : List D} {tg : GF} {cs : List TF} {e : EF} {h : Hd} (I : Sd → Prop) (p : D → Bool) (f : D → D) (hh : gm g all h) :
    ∀ {xs : List D} {σ : Sd}, (∀ x ∈ xs, ∀ σ, I σ → ∃ σ', tg x σ = some σ' ∧ I σ' ∧ iN cs σ' h = .ok (p x) h ∧ (p x = true → e σ' h = .ok (f x) h)) → I σ →
      cz g all tg cs e xs σ h = .ok ((xs.filter p).map f) h
  | [], _, _, _ => by simp [cz, hh]
  | x :: xs, σ, st, i => by
    obtain ⟨σ', h1, h2, h3, h4⟩ := st x (by simp) σ i
    have ih := bM I p f hh (xs := xs) (σ := σ') (fun y hy => st y (by simp [hy])) h2
    cases hp : p x with
    | true => simp [cz, hh, h1, h3, hp, h4 hp, ih]
    | false => simp [cz, hh, h1, h3, hp, ih]
theorem sw {g : Option Nat} {all : List D} {tg : GF} {b : SF} {rest : List D} (P : Nat → Sd → Hd → Prop) (hh : ∀ i σ h, P i σ h → gm g all h) :
    ∀ {xs : List D} {k : Nat} {σ : Sd} {h : Hd}, (∀ (i : Nat) x σ h, xs[i]? = some x → P (k + i) σ h → ∃ σ', tg x σ = some σ' ∧ ∃ σ'' h'', b σ' h = .nx σ'' h'' ∧ P (k + i + 1) σ'' h'') → P k σ h →
      ∃ σ' h', cV g all tg b (xs ++ rest) σ h = cV g all tg b rest σ' h' ∧ P (k + xs.length) σ' h'
  | [], k, σ, h, _, p => ⟨σ, h, rfl, by simpa using p⟩
  | x :: xs, k, σ, h, st, p => by
    obtain ⟨σ', h1, σ2, h2, h3, h4⟩ := st 0 x σ h (by simp) (by simpa using p)
    have st' : ∀ (i : Nat) y σ h, xs[i]? = some y → P (k + 1 + i) σ h → ∃ σ', tg y σ = some σ' ∧ ∃ σ'' h'', b σ' h = .nx σ'' h'' ∧ P (k + 1 + i + 1) σ'' h'' := fun i y σ h e q => by
      have e1 : k + 1 + i = k + (i + 1) := by omega
      rw [e1] at q ⊢
      exact st (i + 1) y σ h (by simpa using e) q
    obtain ⟨σ3, h5, h6, h7⟩ := sw P hh st' (by simpa using h4)
    refine ⟨σ3, h5, ?_, ?_⟩
    · rw [← h6, List.cons_append, cV, if_pos (hh _ _ _ p), h1]
      simp only [h3]
    · have e1 : k + (x :: xs).length = k + 1 + xs.length := by simp; omega
      rw [e1]; exact h7
theorem cg {g : Option Nat} {all : List D} {tg : GF} {b : SF} (P : Nat → Sd → Hd → Prop) (hh : ∀ i σ h, P i σ h → gm g all h)
    {xs : List D} {k : Nat} {σ : Sd} {h : Hd} (st : ∀ (i : Nat) x σ h, xs[i]? = some x → P (k + i) σ h → ∃ σ', tg x σ = some σ' ∧ ∃ σ'' h'', b σ' h = .nx σ'' h'' ∧ P (k + i + 1) σ'' h'') (p : P k σ h) :
      ∃ σ' h', cV g all tg b xs σ h = .nx σ' h' ∧ P (k + xs.length) σ' h' := by
  obtain ⟨σ', h', q, z⟩ := sw (rest := []) P hh st p
  rw [List.append_nil] at q
  exact ⟨σ', h', q.trans (by unfold cV; exact if_pos (hh _ _ _ z)), z⟩
theorem io {g : Option Nat} {all : List D} {tg : GF} {e : EF} (P : Nat → Sd → Hd → Prop) (V : Nat → D → Prop) (hh : ∀ i σ h, P i σ h → gm g all h) :
    ∀ {xs : List D} {k : Nat} {σ : Sd} {h : Hd}, (∀ (i : Nat) x σ h, xs[i]? = some x → P (k + i) σ h → ∃ σ', tg x σ = some σ' ∧ ∃ d h'', e σ' h = .ok d h'' ∧ V (k + i) d ∧ P (k + i + 1) σ' h'') → P k σ h →
      ∃ ds h', cz g all tg [] e xs σ h = .ok ds h' ∧ ds.length = xs.length ∧ (∀ (i : Nat) d, ds[i]? = some d → V (k + i) d) ∧ ∃ σ', P (k + xs.length) σ' h'
  | [], k, σ, h, _, p => ⟨[], h, by simp [cz, hh _ _ _ p], rfl, by simp, σ, by simpa using p⟩
  | x :: xs, k, σ, h, st, p => by
    obtain ⟨σ', h1, d, h2, h3, hv, h4⟩ := st 0 x σ h (by simp) (by simpa using p)
    have st' : ∀ (i : Nat) y σ h, xs[i]? = some y → P (k + 1 + i) σ h → ∃ σ', tg y σ = some σ' ∧ ∃ d h'', e σ' h = .ok d h'' ∧ V (k + 1 + i) d ∧ P (k + 1 + i + 1) σ' h'' := fun i y σ h e q => by
      have e1 : k + 1 + i = k + (i + 1) := by omega
      rw [e1] at q ⊢
      exact st (i + 1) y σ h (by simpa using e) q
    obtain ⟨ds, h5, h6, hl, hvs, σ3, h7⟩ := io P V hh st' (by simpa using h4)
    refine ⟨d :: ds, h5, ?_, by simp [hl], fun i d' hd => ?_, σ3, ?_⟩
    · simp [cz, hh _ _ _ p, h1, iN, h3, h6]
    · cases i with
      | zero => simp at hd; subst hd; simpa using hv
      | succ i =>
        have := hvs i d' (by simpa using hd)
        rwa [show k + 1 + i = k + (i + 1) by omega] at this
    · have e1 : k + (x :: xs).length = k + 1 + xs.length := by simp; omega
      rw [e1]; exact h7
theorem j4 {α : Type} {n : Nat} {ds : List α} {f : Nat → α} (hl : ds.length = n) (h : ∀ (i : Nat) d, ds[i]? = some d → d = f i) : ds = (List.range n).map f := by
  apply List.ext_getElem?
  intro i
  by_cases hi : i < n
  · have : ds[i]? = some (ds[i]'(by omega)) := by simp [hl, hi]
    rw [this, h i _ this]
    simp [hi]
  · simp [hi, hl]
theorem gy {t : TF} {b : SF} : ∀ {n : Nat} {σ : Sd} {h : Hd} {r : Out}, cF t b n σ h = r → r ≠ .bad → ∀ {m : Nat}, n ≤ m → cF t b m σ h = r
  | 0, σ, h, r, e, hr, m, _ => by simp only [cF] at e; exact absurd e.symm hr
  | n + 1, σ, h, r, e, hr, m, hm => by
    cases m with
    | zero => omega
    | succ m =>
      simp only [cF] at e ⊢
      cases c : t σ h with
      | bad => rw [c] at e; exact e
      | exc x h1 => rw [c] at e; exact e
      | ok cb h1 =>
        rw [c] at e
        cases cb with
        | false => exact e
        | true =>
          simp only at e ⊢
          cases c2 : b σ h1 with
          | nx σ2 h2 => rw [c2] at e; exact gy e hr (by omega)
          | ct σ2 h2 => rw [c2] at e; exact gy e hr (by omega)
          | bk σ2 h2 => rw [c2] at e; exact e
          | rt d h2 => rw [c2] at e; exact e
          | exc x σ2 h2 => rw [c2] at e; exact e
          | bad => rw [c2] at e; exact e
theorem sx {t : TF} {b : SF} {n : Nat} {σ : Sd} {h : Hd} {r : Out} (e : cF t b n σ h = r) (hr : r ≠ .bad) : jV t b σ h = r := by
  have ex : ∃ n, cF t b n σ h ≠ .bad := ⟨n, by rw [e]; exact hr⟩
  have hf : FD t b σ h = Classical.choose ex := by simp [FD, ex]
  have h2 := Classical.choose_spec ex
  unfold jV
  rw [hf]
  by_cases hle : n ≤ Classical.choose ex
  · exact gy e hr hle
  · have := gy (n := Classical.choose ex) rfl h2 (m := n) (by omega)
    rw [← this, e]
end Fm
set_option linter.all false
namespace Fm
theorem aF {F : Fn} {r : LF} {σ : Sd} {h h1 h' : Hd} {ds : List D} {d : D} (a : r σ h = .ok ds h1) (b : F ds h1 = .ok d h') : aw F r σ h = .ok d h' := by
  show Res.bind _ _ = _; rw [a]; exact b
theorem aJ {a : EF} {r : LF} {σ : Sd} {h h1 h2 : Hd} {d : D} {ds : List D} (p : a σ h = .ok d h1) (q : r σ h1 = .ok ds h2) : af a r σ h = .ok (d :: ds) h2 := by
  show Res.bind _ _ = _; rw [p, aQ, q]; rfl
theorem aO {g : O2} {a b : EF} {σ : Sd} {h h1 h2 h3 : Hd} {x y z : D} (p : a σ h = .ok x h1) (q : b σ h1 = .ok y h2) (r : g x y h2 = .ok z h3) : ao g a b σ h = .ok z h3 := by
  show Res.bind _ _ = _; rw [p, aQ, q]; exact r
theorem n8 {r : LF} {σ : Sd} {h h' : Hd} {xs : List D} (p : r σ h = .ok xs h') (q : xs.length ≤ SZ := by exact of_decide_eq_true rfl) : eW r σ h = .ok (.tup xs) h' := by
  show Res.bind _ _ = _; rw [p]; exact if_pos q
theorem yC {r : LF} {σ : Sd} {h h' : Hd} {xs : List D} (p : r σ h = .ok xs h') (q : xs.length ≤ SZ := by exact of_decide_eq_true rfl) : bo r σ h = .ok (.ref h'.length) (h' ++ [.lst xs]) := by
  show Res.bind _ _ = _; rw [p]; exact if_pos q
theorem GX {a : LF} {b : EF} {σ : Sd} {h h1 h2 : Hd} {l : List D} {i : Int} {d : D} (p : a σ h = .ok l h1) (q : b σ h1 = .ok (.int i) h2) (r : atI l i = some d) : fIx a b σ h = .ok d h2 := by
  show Res.bind _ _ = _; rw [p, aQ, q]; simp only [aQ, r]
theorem ef {a b : EF} {σ : Sd} {h h1 h2 : Hd} {x : D} {l : List D} {i : Int} {d : D} (p : a σ h = .ok x h1) (q : b σ h1 = .ok (.int i) h2) (s : gW h2 x = some l) (r : atI l i = some d) : fAt a b σ h = .ok d h2 := by
  show ao _ _ _ _ _ = _; exact aO p q (by simp only [oAt, s, r])
theorem uc {h : Hd} {n : Nat} {l : List D} (p : h[n]? = some (.lst l)) : gW h (.ref n) = some l := by simp only [gW, p]
theorem bE {i : Nat} {e : EF} {σ : Sd} {h h' : Hd} {d : D} (p : e σ h = .ok d h') : aH (gN i) e σ h = .nx (σ.set i (some d)) h' := by
  show outE _ _ _ = _; rw [p]; rfl
theorem bU {e : EF} {σ : Sd} {h h' : Hd} {d : D} (p : e σ h = .ok d h') : bi e σ h = .rt d h' := by
  show outE _ _ _ = _; rw [p]; rfl
theorem yD {e : EF} {σ : Sd} {h h' : Hd} {d : D} (p : e σ h = .ok d h') : gX e σ h = .nx σ h' := by
  show outE _ _ _ = _; rw [p]; rfl
theorem pQ {t : TF} {a b : SF} {σ : Sd} {h h1 : Hd} (p : t σ h = .ok true h1) : sIf t a b σ h = a σ h1 := by
  unfold sIf; rw [p]; rfl
theorem eZ {t : TF} {a b : SF} {σ : Sd} {h h1 : Hd} (p : t σ h = .ok false h1) : sIf t a b σ h = b σ h1 := by
  unfold sIf; rw [p]; rfl
theorem bu {a : EF} {σ : Sd} {h h' : Hd} {b : Bool} (p : a σ h = .ok (.bl b) h') : tE a σ h = .ok b h' := by
  show asB _ = _; rw [p]; rfl
theorem cY {t : TF} {σ : Sd} {h h' : Hd} {b : Bool} (p : t σ h = .ok b h') : gl t σ h = .ok (!b) h' := by
  show Res.bind _ _ = _; rw [p]; rfl
theorem ip {t u : TF} {σ : Sd} {h h1 h' : Hd} {b : Bool} (p : t σ h = .ok true h1) (q : u σ h1 = .ok b h') : jR t u σ h = .ok b h' := by
  show Res.bind _ _ = _; rw [p]; exact q
theorem jr {t u : TF} {σ : Sd} {h h1 : Hd} (p : t σ h = .ok false h1) : jR t u σ h = .ok false h1 := by
  show Res.bind _ _ = _; rw [p]; rfl
theorem kE {t u : TF} {σ : Sd} {h h1 h' : Hd} {b : Bool} (p : t σ h = .ok false h1) (q : u σ h1 = .ok b h') : tOr t u σ h = .ok b h' := by
  show Res.bind _ _ = _; rw [p]; exact q
theorem Il {t u : TF} {σ : Sd} {h h1 : Hd} (p : t σ h = .ok true h1) : tOr t u σ h = .ok true h1 := by
  show Res.bind _ _ = _; rw [p]; rfl
theorem GY {i j : Int} {h : Hd} : oEq (.int i) (.int j) h = .ok (.bl (decide (i = j))) h := rfl
theorem eU {a : LF} {σ : Sd} {h h1 : Hd} {l : List D} (p : a σ h = .ok l h1) : ei a σ h = .ok (.int l.length) h1 := by
  show Res.bind _ _ = _; rw [p]; rfl
theorem dG {a : EF} {σ : Sd} {h h1 : Hd} {x : D} {l : List D} (p : a σ h = .ok x h1) (s : gW h1 x = some l) : lOf a σ h = .ok l h1 := by
  show Res.bind _ _ = _; rw [p]; simp only [aQ, s]
theorem Im {x i e : EF} {σ : Sd} {h h1 h2 h3 : Hd} {d : D} {n k : Nat} {j : Int} {l : List D} (p : e σ h = .ok d h1) (q : x σ h1 = .ok (.ref n) h2) (r : i σ h2 = .ok (.int j) h3) (s : h3[n]? = some (.lst l)) (t : ixN l.length j = some k) : pM x i e σ h = .nx σ (h3.set n (.lst (l.set k d))) := by
  simp only [pM, p, q, r, outE, s, t]
theorem Io {i j : Int} {h : Hd} (p : 0 < j) : ie (.int i) (.int j) h = .ok (.int (i % j)) h := by
  simp only [ie, oIc, decide_eq_true p, if_true]
theorem Eo {i j : Int} {h : Hd} (e : i = j) : oEq (.int i) (.int j) h = .ok (.bl true) h := by rw [GY, decide_eq_true e]
theorem Ep {i j : Int} {h : Hd} (e : ¬ i = j) : oEq (.int i) (.int j) h = .ok (.bl false) h := by rw [GY, decide_eq_false e]
theorem Er {i j : Int} {h : Hd} (p : (sml i || sml j) = true) : dw (.int i) (.int j) h = .ok (.int (i * j)) h := by
  show (if (sml i || sml j) = true then _ else _) = _
  exact if_pos p
theorem F3 {i j : Int} {h : Hd} (p : sml i = true) : dw (.int i) (.int j) h = .ok (.int (i * j)) h := Er (by rw [p]; rfl)
theorem F4 {i j : Int} {h : Hd} (p : sml j = true) : dw (.int i) (.int j) h = .ok (.int (i * j)) h := Er (by rw [p, Bool.or_true])
theorem Br {t : TF} {σ : Sd} {h h' : Hd} {b : Bool} (p : t σ h = .ok b h') : fT t σ h = .ok (.bl b) h' := by
  show Res.bind _ _ = _; rw [p]; rfl
theorem gz {r : LF} {σ : Sd} {h0 h g : Hd} {xs : List D} {A : Nat} (hA : A = h0.length) (p : r σ h = .ok xs (h0 ++ g)) (q : xs.length ≤ SZ) : bo r σ h = .ok (.ref (A + g.length)) (h0 ++ (g ++ [.lst xs])) := by
  rw [yC p q, hA, List.length_append, List.append_assoc]
theorem ud {h0 g : Hd} {A : Nat} (hA : A = h0.length) (k : Nat) (c : bL) : (h0 ++ g).set (A + k) c = h0 ++ g.set k c := by
  subst hA
  rw [List.set_append_right _ _ (by omega)]
  congr 2; omega
theorem cH {h0 g : Hd} {A : Nat} (hA : A = h0.length) (k : Nat) : (h0 ++ g)[A + k]? = g[k]? := by
  subst hA
  rw [List.getElem?_append_right (by omega), Nat.add_sub_cancel_left]
theorem fW {h0 : Hd} {j : Nat} {c : bL} (g : Hd) (e : h0[j]? = some c) : (h0 ++ g)[j]? = some c := (List.getElem?_append_left (List.getElem?_eq_some_iff.mp e).1).trans e
theorem n9 {a : EF} {σ : Sd} {h h1 : Hd} {n : Nat} (p : a σ h = .ok (.int n) h1) (hn : n ≤ 1000) : bZ a σ h = .ok ((List.range n).map (fun k : Nat => D.int k), none) h1 := by
  show Res.bind _ _ = _
  rw [p]
  exact if_pos ⟨Int.le_trans (by decide) (Int.natCast_nonneg n), Int.le_trans (Int.ofNat_le.mpr hn) (by decide)⟩
theorem lI {it : IF} {tg : GF} {b : SF} {σ : Sd} {h h1 : Hd} {l : List D} {g : Option Nat} {o : Out} (p : it σ h = .ok (l, g) h1) (q : cV g l tg b l σ h1 = o) : gn it tg b σ h = o := by
  unfold gn; rw [p]; exact q
theorem nk {nl : Nat} {caps : List Nat} {it : IF} {tg : GF} {cs : List TF} {e : EF} {σ : Sd} {h h1 h2 : Hd} {l ds : List D} {g : Option Nat} (p : it σ h = .ok (l, g) h1) (q : cz g l tg cs e l (fR nl caps σ) h1 = .ok ds h2) : bO nl caps it tg cs e σ h = .ok ds h2 := by
  show Res.bind _ _ = _; rw [p]; exact q
theorem kF {a : EF} {σ : Sd} {h h1 : Hd} {n : Nat} {l : List D} (p : a σ h = .ok (.ref n) h1) (q : h1[n]? = some (.lst l)) : db a σ h = .ok (l, some n) h1 := by
  simp only [db, p, aQ, q]
theorem Es {a : EF} {σ : Sd} {h h1 : Hd} {b : Bool} (p : a σ h = .ok (.bl b) h1) : DG a σ h = .ok (.int (b2i b)) h1 := by
  simp only [DG, p, aQ]
theorem Ip {a : LF} {σ : Sd} {h h1 : Hd} {l : List D} {is : List Int} (p : a σ h = .ok l h1) (q : gq l = some is) : kr a σ h = .ok (.int is.sum) h1 := by
  simp only [kr, p, aQ, q]
theorem F5 {a : LF} {σ : Sd} {h h1 : Hd} {l : List D} (p : a σ h = .ok l h1) : cK a σ h = .ok (.tup l) h1 := by
  show Res.bind _ _ = _; rw [p]; rfl
theorem Iq {i j : Int} {h : Hd} (e : j < i) : oGt (.int i) (.int j) h = .ok (.bl true) h := by show Res.ok (D.bl (decide (j < i))) h = _; rw [decide_eq_true e]
theorem Ir {i j : Int} {h : Hd} (e : ¬ j < i) : oGt (.int i) (.int j) h = .ok (.bl false) h := by show Res.ok (D.bl (decide (j < i))) h = _; rw [decide_eq_false e]
theorem iq {h : Hd} {A : Nat} (hA : A = h.length) (c : bL) : (h ++ [c])[A]? = some c := by rw [hA]; exact List.getElem?_concat_length
theorem F6 {h : Hd} {A : Nat} (hA : A = h.length) (c d : bL) : (h ++ [c]).set A d = h ++ [d] := by
  have := ud (g := [c]) hA 0 d
  rwa [Nat.add_zero] at this
theorem nr {r : LF} {σ : Sd} {h h' : Hd} {xs : List D} {A : Nat} (hA : A = h'.length) (p : r σ h = .ok xs h') (q : xs.length ≤ SZ) : bo r σ h = .ok (.ref A) (h' ++ [.lst xs]) := by rw [hA]; exact yC p q
theorem F7 {l : List Int} {i : Nat} (h : i < l.length) : atI (l.map D.int) (i : Int) = some (.int (l.getD i 0)) := da (by rw [List.getElem?_map, List.getElem?_eq_getElem h, List.getD_eq_getElem?_getD, List.getElem?_eq_getElem h]; rfl)
theorem aX {a b : SF} {σ σ' : Sd} {h h' : Hd} (e : a σ h = .nx σ' h') : aC a b σ h = b σ' h' := by simp only [aC, e]
theorem og {a b : SF} {σ : Sd} {h h' : Hd} {d : D} (e : a σ h = .rt d h') : aC a b σ h = .rt d h' := by simp only [aC, e]
theorem cU {np n : Nat} {b : SF} {ds : List D} {σ : Sd} {h h' : Hd} {d : D} (hl : ds.length = np) (st : (ds.map some ++ List.replicate (n - ds.length) none : Sd) = σ) (e : b σ h = .rt d h') : a8 np n b ds h = letGo h (.ok d h') := by
  unfold a8 runB; rw [if_pos hl, st, e]
theorem GZ {np n : Nat} {b : SF} {ds : List D} {σ σ' : Sd} {h h' : Hd} (hl : ds.length = np) (st : (ds.map some ++ List.replicate (n - ds.length) none : Sd) = σ) (e : b σ h = .nx σ' h') : a8 np n b ds h = letGo h (.ok .non h') := by
  unfold a8 runB; rw [if_pos hl, st, e]
theorem lJ {t : TF} {σ : Sd} {h : Hd} {b : Bool} (p : t σ h = .ok b h) : iN [t] σ h = .ok b h := by
  simp only [iN, p, aQ]; cases b <;> rfl
theorem wo {a : EF} {σ : Sd} {h h1 : Hd} {l : List D} (p : a σ h = .ok (.tup l) h1) : db a σ h = .ok (l, none) h1 := by
  show Res.bind _ _ = _; rw [p]; rfl
theorem ir (a b : Int) (h : Hd) : oNe (.int a) (.int b) h = .ok (.bl (!decide (a = b))) h := rfl
theorem cB {a b : EF} {σ : Sd} {h h1 h2 : Hd} {d e : D} (p : a σ h = .ok d h1) (q : b σ h1 = .ok e h2) : af a (af b av) σ h = .ok [d, e] h2 := aJ p (aJ q rfl)
theorem Cd {n m : Nat} (h : n ≤ 30) (q : 30 ≤ m := by decide) : n ≤ m := Nat.le_trans h q
end Fm
set_option linter.all false
namespace Fm
noncomputable def dH : Fn := a8 1 1 (bi (fT (jR (tE (gr .int (aa 0))) (gl (tE (gr .bool (aa 0)))))))
noncomputable def eg : Fn := a8 3 3 (bi (fT (jR (tE (aw dH (af (aa 0) av))) (tE (nN oLe oLe (aa 1) (aa 0) (aa 2))))))
noncomputable def bI : Fn := a8 1 1 (bi (aw eg (af (aa 0) (af (fC (.int 0)) (af (fC (.int 1)) av)))))
noncomputable def dS : Fn := a8 1 1 (bi (ei (lOf (fAt (aa 0) (fC (.int 0))))))
noncomputable def g8 : Fn := a8 2 2 (bi (fAt (fAt (aa 0) (fC (.int 0))) (aa 1)))
noncomputable def i4 : Fn := a8 2 2 (bi (fAt (fAt (aa 0) (fC (.int 1))) (aa 1)))
noncomputable def en : Fn := a8 2 2 (bi (fAt (fAt (aa 0) (fC (.int 2))) (aa 1)))
noncomputable abbrev kG : SF := (aC (sIf (gl (tE (aw bI (af (aa 3) av)))) (bi (fC (.bl false))) bS)
    (aC (aH (gN 4) (aw en (af (aa 0) (af (aa 2) av))))
    (sIf (jR (tE (ao kq (aa 4) (fC .non))) (tE (ao oNe (aa 3) (aa 4)))) (bi (fC (.bl false))) bS)))
noncomputable def dI : Fn := a8 2 5 (aC (sIf (tOr (gl (tE (gr .tuple (aa 1)))) (tE (ao oNe (ei (lOf (aa 1))) (aw dS (af (aa 0) av))))) (bi (fC (.bl false))) bS)
    (aC (gn (DH (aa 1)) (gT [2, 3]) kG)
    (bi (fC (.bl true)))))
noncomputable def fq : Fn := a8 3 3 (bi (ao dw (fC (.int 2)) (kr (bO 2 [1] (db (aw g8 (af (aa 0) (af (aa 2) av)))) (gT [0, 1]) [(tE (ao oEq (fAt (aa 2) (aa 0)) (fC (.int 1))))] (aa 1)))))
theorem ue (i : Int) (h : Hd) : dH [.int i] h = .ok (.bl true) h := (cU (d := .bl true) (h' := h) rfl rfl rfl).trans aU
theorem oh (i a b : Int) (h : Hd) : eg [.int i, .int a, .int b] h = .ok (.bl (decide (a ≤ i) && decide (i ≤ b))) h := by
  have ch : nN oLe oLe (aa 1) (aa 0) (aa 2) [some (.int i), some (.int a), some (.int b)] h = .ok (.bl (decide (a ≤ i) && decide (i ≤ b))) h := by
    show (match D.bl (decide (a ≤ i)) with | .bl true => Res.ok (D.bl (decide (i ≤ b))) h | .bl false => .ok (.bl false) h | _ => .bad) = _
    cases decide (a ≤ i) <;> rfl
  have t : jR (tE (aw dH (af (aa 0) av))) (tE (nN oLe oLe (aa 1) (aa 0) (aa 2))) [some (.int i), some (.int a), some (.int b)] h = .ok (decide (a ≤ i) && decide (i ≤ b)) h := ip (bu (aF (aJ rfl rfl) (ue i h))) (bu ch)
  exact (cU rfl rfl (bU (Br t))).trans aU
theorem cZ (i : Int) (h : Hd) : bI [.int i] h = .ok (.bl (decide (0 ≤ i) && decide (i ≤ 1))) h := by
  exact (cU rfl rfl (bU (aF (aJ rfl (cB rfl rfl)) (oh i 0 1 h)))).trans aU
theorem i5 (w : Web) (h : Hd) : dS [w.enc] h = .ok (.int w.ties.length) h := by
  have := (cU (np := 1) (n := 1) (b := bi (ei (lOf (fAt (aa 0) (fC (.int 0)))))) (ds := [w.enc]) (h := h) rfl rfl (bU (eU (dG (ef rfl rfl rfl rfl) rfl)))).trans aU
  rwa [List.length_map] at this
theorem wp (w : Web) (h : Hd) {p : Nat} {r : List (Nat × Int)} (e : w.ties[p]? = some r) : g8 [w.enc, .int p] h = .ok (kD r) h := by
  have q : atI (w.ties.map kD) (p : Int) = some (kD r) := da (by simp [e])
  exact (cU rfl rfl (bU (ef (ef rfl rfl rfl rfl) rfl rfl q))).trans aU
theorem yE (w : Web) (h : Hd) {p : Nat} {r : Int} (e : w.bars[p]? = some r) : i4 [w.enc, .int p] h = .ok (.int r) h := by
  have q : atI (w.bars.map .int) (p : Int) = some (.int r) := da (by simp [e])
  exact (cU rfl rfl (bU (ef (ef rfl rfl rfl rfl) rfl rfl q))).trans aU
theorem dU (w : Web) (h : Hd) {p : Nat} {r : Option Int} (e : w.stays[p]? = some r) : en [w.enc, .int p] h = .ok (bF r) h := by
  have q : atI (w.stays.map bF) (p : Int) = some (bF r) := da (by simp [e])
  exact (cU rfl rfl (bU (ef (ef rfl rfl rfl rfl) rfl rfl q))).trans aU
theorem Bs {w : Web} {n : Nat} {s : List Int} (W : w.Ok n) (F : cW w n s) (h : Hd) : dI [w.enc, aB s] h = .ok (.bl true) h := by
  obtain ⟨σ', h', h1, h2, a, b, c, h3⟩ := cg (P := fun _ σ h' => h' = h ∧ ∃ a b c, σ = [some w.enc, some (aB s), a, b, c]) (g := none) (k := 0)
      (all := ((List.range (s.map D.int).length).zip (s.map D.int)).map fun p => D.tup [.int (p.1 : Nat), p.2]) (fun _ _ _ _ => trivial)
      (xs := ((List.range (s.map D.int).length).zip (s.map D.int)).map fun p => D.tup [.int (p.1 : Nat), p.2]) (tg := gT [2, 3]) (σ := [some w.enc, some (aB s), none, none, none]) (h := h)
      (b := kG) (by
      rintro i x σ h0 hx ⟨rfl, a, b, c, rfl⟩
      have hi : i < s.length := by
        have := (List.getElem?_eq_some_iff.mp hx).1
        simpa using this
      have hx' : x = .tup [.int (i : Nat), .int s[i]] := by simpa [hi, List.getElem?_eq_getElem] using hx.symm
      subst hx'
      have hs : w.stays[i]? = some (w.stays[i]'(by rw [W.s, ← F.len]; exact hi)) := List.getElem?_eq_getElem _
      generalize w.stays[i]'(by rw [W.s, ← F.len]; exact hi) = st at hs
      have op : bI [.int s[i]] h0 = .ok (.bl true) h0 := by
        rw [cZ]; rcases F.op _ (List.getElem_mem hi) with e | e <;> rw [e] <;> rfl
      have s1 : sIf (gl (tE (aw bI (af (aa 3) av)))) (bi (fC (.bl false))) bS [some w.enc, some (aB s), some (.int i), some (.int s[i]), c] h0 = .nx [some w.enc, some (aB s), some (.int i), some (.int s[i]), c] h0 := eZ (cY (bu (aF (aJ rfl rfl) op)))
      have sv := dU w h0 hs
      cases st with
      | none => exact ⟨_, rfl, _, h0, (aX s1).trans ((aX (bE (aF (cB rfl rfl) sv))).trans (eZ (jr (bu (aO rfl rfl rfl))))), rfl, _, _, _, rfl⟩
      | some y =>
        have hy : s[i] = y := by have := F.st i y hs; rw [List.getElem?_eq_getElem hi] at this; exact Option.some.inj this
        exact ⟨_, rfl, _, h0, (aX s1).trans ((aX (bE (aF (cB rfl rfl) sv))).trans (eZ (ip (bu (aO rfl rfl rfl)) (bu (aO rfl rfl (by rw [show bF (some y) = D.int y from rfl, ir, decide_eq_true hy]; rfl)))))), rfl, _, _, _, rfl⟩) ⟨rfl, _, _, _, rfl⟩
  rw [h2, h3] at h1
  have s1 : sIf (tOr (gl (tE (gr .tuple (aa 1)))) (tE (ao oNe (ei (lOf (aa 1))) (aw dS (af (aa 0) av))))) (bi (fC (.bl false))) bS [some w.enc, some (aB s), none, none, none] h = .nx [some w.enc, some (aB s), none, none, none] h :=
    eZ (kE (cY (b := true) (bu rfl)) (bu (aO (eU (dG rfl rfl)) (aF (aJ rfl rfl) (i5 w h)) (by rw [ir, List.length_map, F.len, W.t, decide_eq_true rfl]; rfl))))
  exact (cU rfl rfl ((aX s1).trans ((aX (lI rfl h1)).trans (bU rfl)))).trans aU
theorem jt (l : List Int) : gq (l.map .int) = some l := by
  induction l with
  | nil => rfl
  | cons x xs ih => simp [gq, ih]
theorem yF {s : List Int} {i : Nat} (h : i < s.length) : atI (s.map .int) (i : Int) = some (.int s[i]) := da (by simp [h])
def nt (r : List (Nat × Int)) (s : List Int) : List Int := (r.filter fun p => decide (s.getD p.1 0 = 1)).map (·.2)
def cu (r : List (Nat × Int)) (s : List Int) : Int := (nt r s).sum
theorem uf {x : Int} (h : x = 0 ∨ x = 1) : sml x = true := by rcases h with e | e <;> subst e <;> decide
theorem j5 {α : Type} {f : α → D} {l : List α} {i : Nat} (h : i < l.length) : atI (l.map f) (i : Int) = some (f l[i]) := da (by simp [h])
end Fm
set_option linter.all false
namespace Fm
noncomputable def cO : Fn := a8 3 6 (aC (aH (gN 3) (aw en (af (aa 0) (af (aa 2) av))))
    (aC (sIf (tE (ao kq (aa 3) (fC .non))) (bi (aa 3)) bS)
    (aC (aH (gN 4) (aw fq (af (aa 0) (af (aa 1) (af (aa 2) av)))))
    (aC (aH (gN 5) (aw i4 (af (aa 0) (af (aa 2) av))))
    (aC (sIf (tE (ao oEq (aa 4) (aa 5))) (bi (fAt (aa 1) (aa 2))) bS)
    (bi (fIf (tE (ao oGt (aa 4) (aa 5))) (fC (.int 1)) (fC (.int 0)))))))))
def bB (w : Web) (s : List Int) (p : Nat) : Int := match w.stays.getD p none with
  | some x => x
  | none => if 2 * cu (w.ties.getD p []) s = w.bars.getD p 0 then s.getD p 0 else if w.bars.getD p 0 < 2 * cu (w.ties.getD p []) s then 1 else 0
def G0 (w : Web) (n : Nat) (s : List Int) : List Int := (List.range n).map (bB w s)
def dJ (w : Web) : Prop := ∀ x ∈ w.stays, x = none ∨ x = some 0 ∨ x = some 1
theorem oj {w : Web} {n : Nat} {s : List Int} (F : cW w n s) (i : Nat) : s.getD i 0 = 0 ∨ s.getD i 0 = 1 := by
  by_cases hi : i < s.length
  · rw [List.getD, List.getElem?_eq_getElem hi]; exact F.op _ (List.getElem_mem hi)
  · rw [List.getD, List.getElem?_eq_none (by omega)]; exact .inl rfl
theorem wq {w : Web} {n : Nat} {s : List Int} (F : cW w n s) (S : dJ w) (p : Nat) : bB w s p = 0 ∨ bB w s p = 1 := by
  unfold bB
  cases c : w.stays.getD p none with
  | some x =>
    have : some x ∈ w.stays := by
      rw [List.getD] at c
      cases e : w.stays[p]? with
      | none => rw [e] at c; cases c
      | some y => rw [e] at c; simp at c; subst c; exact List.mem_of_getElem? e
    have := S _ this
    simp at this
    exact this
  | none =>
    simp only
    split
    · exact oj F p
    · split <;> simp
end Fm
set_option linter.all false
namespace Fm
def LeS (a b : List Int) : Prop := ∀ i : Nat, a.getD i 0 ≤ b.getD i 0
def Iu (a : List Int) : Prop := ∀ i : Nat, a.getD i 0 = 0 ∨ a.getD i 0 = 1
theorem cW.bits {w : Web} {n : Nat} {s : List Int} (F : cW w n s) : Iu s := fun i => oj F i
structure Kl (w1 w2 : Web) (n : Nat) : Prop where
  go : ∀ a b, cW w1 n a → cW w2 n b → LeS a b → LeS (G0 w1 n a) (G0 w2 n b)
end Fm
set_option linter.all false
namespace Fm
def S2 (R : Nat → List (Nat × Int)) (f s : Nat → Int) : Nat → Int
  | 0 => 0
  | k + 1 => S2 R f s k + ((R k).map fun p => p.2 * f p.1 * s k).sum
def nc (g : Nat → Int) : Nat → Int
  | 0 => 0
  | n + 1 => nc g n + g n
theorem sy {r : List (Nat × Int)} {f : List Int} (hf : ∀ p ∈ r, f.getD p.1 0 = 0 ∨ f.getD p.1 0 = 1) : cu r f = (r.map fun p => p.2 * f.getD p.1 0).sum := by
  induction r with
  | nil => rfl
  | cons p r ih =>
    have h1 := hf p (by simp)
    have h2 := ih fun q hq => hf q (by simp [hq])
    simp only [cu, nt] at h2 ⊢
    rcases h1 with e | e
    · simp [-List.getD_eq_getElem?_getD, e, h2]
    · simp [-List.getD_eq_getElem?_getD, e, h2]
theorem sA {w : Web} {n : Nat} {s : List Int} (F : cW w n s) {p : Nat} {x : Int} (e : w.stays.getD p none = some x) : s.getD p 0 = x := by
  have : w.stays[p]? = some (some x) := by
    rw [List.getD] at e
    cases c : w.stays[p]? with
    | none => rw [c] at e; cases e
    | some y => rw [c] at e; simp at e; rw [e]
  have := F.st p x this
  simp [List.getD, this]
def yG (r : List (Nat × Int)) : Int := (r.map fun p => (p.2.natAbs : Int)).sum
theorem yH {P : Nat → Prop} (h : ∃ t, P t) : ∃ t, P t ∧ ∀ k, k < t → ¬ P k := by
  obtain ⟨t, ht⟩ := h
  induction t using Nat.strongRecOn with
  | ind t ih =>
    by_cases q : ∃ k, k < t ∧ P k
    · obtain ⟨k, hk, pk⟩ := q
      exact ih k hk pk
    · exact ⟨t, ht, fun k hk pk => q ⟨k, hk, pk⟩⟩
end Fm
set_option linter.all false
namespace Fm
theorem lK : ∀ (a b : List Int), a.length = b.length → gF (a.map .int) (b.map .int) = some (decide (a = b))
  | [], [], _ => by simp [gF]
  | x :: a, y :: b, h => by
    have ih := lK a b (by simpa using h)
    simp only [List.map_cons, gF, peq, ih]
    by_cases e : x = y <;> by_cases e2 : a = b <;> simp [e, e2]
  | [], _ :: _, h => by simp at h
  | _ :: _, [], h => by simp at h
theorem sB (l : List Int) : jT (l.map .int) = 0 := by
  induction l with
  | nil => rfl
  | cons x l ih => simp [jT, dep, ih]
theorem Bt (l : List Int) : dep (aB l) = 1 := by simp [aB, dep, sB]
theorem Bu {a b : List Int} (h : a.length = b.length) : peq (aB a) (aB b) = some (decide (a = b)) := by
  simp only [aB, peq, lK a b h, Option.map_some, List.length_map, h]
  simp
theorem F8 {a b : List Int} (h : a.length = b.length) (hd : Hd) : eqG hd (aB a) (aB b) = some (decide (a = b)) := by
  have e1 : ∀ l, bP hd (aB l) = none := fun l => rfl
  simp only [eqG, e1, Bt, Bu h]
  rfl
theorem F9 {a b : List Int} (h : a.length = b.length) (hd : Hd) : oNe (aB a) (aB b) hd = .ok (.bl (!decide (a = b))) hd := by
  unfold oNe; rw [F8 h]
theorem bA {a b : SF} {σ σ' : Sd} {h h' : Hd} (e : a σ h = .nx σ' h') : aC a b σ h = b σ' h' := by simp [aC, e]
end Fm
set_option linter.all false
namespace Fm
def fn (s : List Int) : Nat → Int := fun k => s.getD k 0
def wgt (w : Web) (n : Nat) (s : List Int) : Int := nc (fun k => w.bars.getD k 0 * s.getD k 0) n - S2 (fun i => w.ties.getD i []) (fn s) (fn s) n
def gD (p : Nat) : Nat → Int := fun k => if k = p then 1 else 0
theorem Ga (r : List (Nat × Int)) (f g : Nat → Int) (c x : Int) : (r.map fun p => p.2 * (f p.1 + c * g p.1) * x).sum = (r.map fun p => p.2 * f p.1 * x).sum + c * (r.map fun p => p.2 * g p.1 * x).sum := by
  induction r with
  | nil => simp
  | cons p r ih =>
    simp only [List.map_cons, List.sum_cons, ih]
    have e1 : p.2 * (f p.1 + c * g p.1) * x = p.2 * f p.1 * x + c * (p.2 * g p.1 * x) := by
      rw [Int.mul_add, Int.add_mul]
      congr 1
      rw [← Int.mul_assoc p.2 c, Int.mul_comm p.2 c]
      simp only [Int.mul_assoc]
    rw [e1, Int.mul_add]; omega
theorem Et (r : List (Nat × Int)) (f : Nat → Int) (c x y : Int) : (r.map fun p => p.2 * f p.1 * (x + c * y)).sum = (r.map fun p => p.2 * f p.1 * x).sum + c * (r.map fun p => p.2 * f p.1 * y).sum := by
  induction r with
  | nil => simp
  | cons p r ih =>
    simp only [List.map_cons, List.sum_cons, ih]
    have e1 : p.2 * f p.1 * (x + c * y) = p.2 * f p.1 * x + c * (p.2 * f p.1 * y) := by
      rw [Int.mul_add]
      congr 1
      rw [← Int.mul_assoc, Int.mul_comm (p.2 * f p.1) c, Int.mul_assoc]
    rw [e1, Int.mul_add]; omega
theorem Bv (R : Nat → List (Nat × Int)) (f g s : Nat → Int) (c : Int) : ∀ n, S2 R (fun k => f k + c * g k) s n = S2 R f s n + c * S2 R g s n
  | 0 => by simp [S2]
  | n + 1 => by rw [S2, S2, S2, Bv R f g s c n, Ga, Int.mul_add]; omega
theorem ug (R : Nat → List (Nat × Int)) (f s t : Nat → Int) (c : Int) : ∀ n, S2 R f (fun k => s k + c * t k) n = S2 R f s n + c * S2 R f t n
  | 0 => by simp [S2]
  | n + 1 => by rw [S2, S2, S2, ug R f s t c n, Et, Int.mul_add]; omega
theorem uh (R : Nat → List (Nat × Int)) (f : Nat → Int) (p : Nat) : ∀ n, S2 R f (gD p) n = if p < n then ((R p).map fun q => q.2 * f q.1).sum else 0
  | 0 => by simp [S2]
  | n + 1 => by
    rw [S2, uh R f p n]
    by_cases e : n = p
    · subst e
      have : ((R n).map fun q => q.2 * f q.1 * gD n n) = (R n).map fun q => q.2 * f q.1 := by
        apply List.map_congr_left; intro q _; simp [gD]
      rw [this]; simp
    · have : ((R n).map fun q => q.2 * f q.1 * gD p n) = (R n).map fun _ => (0 : Int) := by
        apply List.map_congr_left; intro q _; simp [gD, e]
      rw [this]
      have z : ((R n).map fun _ => (0 : Int)).sum = 0 := by induction R n with
        | nil => rfl
        | cons a l ih => simp [ih]
      rw [z]
      by_cases l : p < n
      · rw [if_pos l, if_pos (by omega)]; omega
      · rw [if_neg l, if_neg (by omega)]; omega
theorem sC (g : Nat → Int) (p : Nat) : ∀ n, nc (fun k => g k * gD p k) n = if p < n then g p else 0
  | 0 => by simp [nc]
  | n + 1 => by
    rw [nc, sC g p n]
    by_cases e : n = p
    · subst e; simp [gD]
    · simp only [gD, if_neg e]
      by_cases l : p < n
      · rw [if_pos l, if_pos (by omega)]; omega
      · rw [if_neg l, if_neg (by omega)]; omega
theorem wr (g f t : Nat → Int) (c : Int) : ∀ n, nc (fun k => g k * (f k + c * t k)) n = nc (fun k => g k * f k) n + c * nc (fun k => g k * t k) n
  | 0 => by simp [nc]
  | n + 1 => by
    rw [nc, nc, nc, wr g f t c n, Int.mul_add, Int.mul_add]
    have : g n * (c * t n) = c * (g n * t n) := by rw [← Int.mul_assoc, Int.mul_comm (g n) c, Int.mul_assoc]
    rw [this]; omega
theorem Eu {s : List Int} {p : Nat} {x : Int} (h : p < s.length) : fn (s.set p x) = fun k => fn s k + (x - s.getD p 0) * gD p k := by
  funext k
  unfold fn gD
  by_cases e : k = p
  · subst e; simp [List.getD, h]; omega
  · simp only [List.getD, if_neg e]
    rw [List.getElem?_set_ne (by omega)]; omega
theorem Gb {w : Web} {n : Nat} {s : List Int} (hs : s.length = n) (B : Iu s) (sym : ∀ f s, S2 (fun i => w.ties.getD i []) f s n = S2 (fun i => w.ties.getD i []) s f n) (ns : ∀ i p, p ∈ w.ties.getD i [] → p.1 ≠ i) {p : Nat} (hp : p < n) (x : Int) :
    wgt w n (s.set p x) = wgt w n s + (x - s.getD p 0) * (w.bars.getD p 0 - 2 * cu (w.ties.getD p []) s) := by
  unfold wgt
  have e1 : (fun k => w.bars.getD k 0 * (s.set p x).getD k 0) = fun k => w.bars.getD k 0 * (fn s k + (x - s.getD p 0) * gD p k) := by
    funext k
    have := congrFun (Eu (x := x) (show p < s.length by omega)) k
    rw [show (s.set p x).getD k 0 = fn (s.set p x) k from rfl, this]
  rw [e1, wr, sC, if_pos hp, Eu (by omega), Bv, ug, ug, sym (gD p) (fn s), uh, if_pos hp, uh, if_pos hp]
  have pe : ((w.ties.getD p []).map fun q => q.2 * fn s q.1).sum = cu (w.ties.getD p []) s := (sy fun q _ => B q.1).symm
  have ze : ∀ l : List (Nat × Int), (∀ q ∈ l, q.1 ≠ p) → (l.map fun q => q.2 * gD p q.1).sum = 0 := fun l => by
    induction l with
    | nil => intro _; rfl
    | cons a l ih => intro h; simp only [List.map_cons, List.sum_cons]; rw [ih fun q hq => h q (by simp [hq])]; simp [gD, h a (by simp)]
  rw [pe, ze _ fun q hq => ns p q hq]
  have f0 : (fun k => w.bars.getD k 0 * s.getD k 0) = fun k => w.bars.getD k 0 * fn s k := rfl
  rw [f0]
  generalize x - s.getD p 0 = c
  generalize w.bars.getD p 0 = b
  generalize cu (w.ties.getD p []) s = P
  rw [Int.mul_sub]
  have : c * (2 * P) = c * P + c * P := by rw [← Int.mul_add]; congr 1; omega
  rw [this]
  simp
  omega
theorem Ev {w : Web} {n : Nat} {s : List Int} (F : cW w n s) (S : dJ w) (sym : ∀ f s, S2 (fun i => w.ties.getD i []) f s n = S2 (fun i => w.ties.getD i []) s f n) (ns : ∀ i p, p ∈ w.ties.getD i [] → p.1 ≠ i) {p : Nat} (hp : p < n) (ne : bB w s p ≠ s.getD p 0) :
    1 ≤ (2 * cu (w.ties.getD p []) s - w.bars.getD p 0).natAbs ∧ wgt w n (s.set p (bB w s p)) = wgt w n s - ((2 * cu (w.ties.getD p []) s - w.bars.getD p 0).natAbs : Int) := by
  rw [Gb F.len F.bits sym ns hp]
  have b := F.bits p
  have nb := wq F S p
  have st : w.stays.getD p none = none := by
    cases c : w.stays.getD p none with
    | none => rfl
    | some x =>
      have e1 : bB w s p = x := by unfold bB; rw [c]
      have e2 : s.getD p 0 = x := sA F c
      omega
  have nx : bB w s p = if 2 * cu (w.ties.getD p []) s = w.bars.getD p 0 then s.getD p 0 else if w.bars.getD p 0 < 2 * cu (w.ties.getD p []) s then 1 else 0 := by
    unfold bB; rw [st]
  rw [nx] at ne nb ⊢
  clear nx
  generalize cu (w.ties.getD p []) s = P at *
  generalize w.bars.getD p 0 = b' at *
  generalize s.getD p 0 = y at *
  by_cases c1 : 2 * P = b'
  · rw [if_pos c1] at ne; exact absurd rfl ne
  · rw [if_neg c1] at ne ⊢
    by_cases c2 : b' < 2 * P
    · rw [if_pos c2] at ne ⊢
      have : y = 0 := by omega
      subst this
      constructor <;> omega
    · rw [if_neg c2] at ne ⊢
      have : y = 1 := by omega
      subst this
      constructor <;> omega
theorem low : ∀ (n : Nat) (f : List Int → Int), ∃ L : Int, ∀ s : List Int, s.length = n → (∀ x ∈ s, x = 0 ∨ x = 1) → L ≤ f s
  | 0, f => ⟨f [], fun s h _ => by rw [List.length_eq_zero_iff.mp h]; exact Int.le_refl _⟩
  | n + 1, f => by
    obtain ⟨a, ha⟩ := low n fun s => f (0 :: s)
    obtain ⟨b, hb⟩ := low n fun s => f (1 :: s)
    refine ⟨min a b, fun s h o => ?_⟩
    cases s with
    | nil => simp at h
    | cons x s =>
      have l : s.length = n := by simpa using h
      have o' : ∀ y ∈ s, y = 0 ∨ y = 1 := fun y hy => o y (by simp [hy])
      rcases o x (by simp) with e | e
      · subst e; have := ha s l o'; omega
      · subst e; have := hb s l o'; omega
def a9 (w : Web) : List Int → List Nat → List Int
  | s, [] => s
  | s, p :: o => a9 w (s.set p (bB w s p)) o
def chL (w : Web) : Nat → List Int → List Nat → List (Nat × Nat × Int)
  | _, _, [] => []
  | k, s, p :: o => if bB w s p = s.getD p 0 then chL w (k + 1) s o else (k, p, bB w s p) :: chL w (k + 1) (s.set p (bB w s p)) o
def cT : List (Nat × Nat × Int) → List Int → List Int
  | [], s => s
  | c :: l, s => cT l (s.set c.2.1 c.2.2)
theorem fX {s : List Int} {p : Nat} {x : Int} (e : x = s.getD p 0) : s.set p x = s := by
  subst e
  by_cases h : p < s.length
  · simp [List.getD, h]
  · exact List.set_eq_of_length_le (by omega)
theorem om (w : Web) : ∀ (o : List Nat) (k : Nat) (s : List Int), cT (chL w k s o) s = a9 w s o
  | [], _, _ => rfl
  | p :: o, k, s => by
    rw [chL, a9]
    by_cases e : bB w s p = s.getD p 0
    · rw [if_pos e, om w o, fX e]
    · rw [if_neg e, cT, om w o]
theorem wu {w : Web} {n : Nat} {s : List Int} (W : w.Ok n) (S : dJ w) (F : cW w n s) (p : Nat) : cW w n (s.set p (bB w s p)) := by
  refine ⟨by simp [F.len], fun x hx => ?_, fun i x e => ?_⟩
  · rcases List.mem_or_eq_of_mem_set hx with h | h
    · exact F.op x h
    · rw [h]; exact wq F S p
  · have := F.st i x e
    by_cases h : i = p
    · subst h
      have hi := (List.getElem?_eq_some_iff.mp this).1
      rw [List.getElem?_set_self hi]
      have : w.stays.getD i none = some x := by simp [List.getD, e]
      congr 1
      unfold bB; rw [this]
    · rw [List.getElem?_set_ne (by omega)]; exact this
theorem fz {w : Web} {n : Nat} (W : w.Ok n) (S : dJ w) : ∀ (o : List Nat) {s : List Int}, cW w n s → cW w n (a9 w s o)
  | [], _, F => F
  | p :: o, s, F => fz W S o (wu W S F p)
theorem yI (w : Web) : ∀ (o : List Nat) (k : Nat) (s : List Int), (chL w k s o).length ≤ o.length
  | [], _, _ => Nat.le_refl _
  | p :: o, k, s => by
    rw [chL]
    split
    · have := yI w o (k + 1) s; simp; omega
    · have := yI w o (k + 1) (s.set p (bB w s p)); simp; omega
theorem ju {w : Web} {n : Nat} (W : w.Ok n) (S : dJ w) (sym : ∀ f s, S2 (fun i => w.ties.getD i []) f s n = S2 (fun i => w.ties.getD i []) s f n) (ns : ∀ i p, p ∈ w.ties.getD i [] → p.1 ≠ i) : ∀ (o : List Nat) (k : Nat) {s : List Int}, (∀ p ∈ o, p < n) → cW w n s →
    wgt w n (a9 w s o) + (chL w k s o).length ≤ wgt w n s
  | [], _, s, _, _ => by simp [a9, chL]
  | p :: o, k, s, ho, F => by
    have hp := ho p (by simp)
    have ho' : ∀ q ∈ o, q < n := fun q hq => ho q (by simp [hq])
    rw [a9, chL]
    by_cases e : bB w s p = s.getD p 0
    · rw [if_pos e, fX e]; exact ju W S sym ns o (k + 1) ho' F
    · rw [if_neg e]
      have h1 := Ev F S sym ns hp e
      have h2 := ju W S sym ns o (k + 1) ho' (wu W S F p)
      rw [h1.2] at h2
      simp only [List.length_cons]
      omega
theorem Ew {w : Web} : ∀ {o : List Nat} {k : Nat} {s : List Int}, chL w k s o = [] → a9 w s o = s ∧ ∀ p ∈ o, bB w s p = s.getD p 0
  | [], _, _, _ => ⟨rfl, by simp⟩
  | p :: o, k, s, h => by
    rw [chL] at h
    by_cases e : bB w s p = s.getD p 0
    · rw [if_pos e] at h
      have ih := Ew h
      refine ⟨by rw [a9, fX e]; exact ih.1, fun q hq => ?_⟩
      rcases List.mem_cons.mp hq with z | z
      · rw [z]; exact e
      · exact ih.2 q z
    · rw [if_neg e] at h; cases h
def ba (w : Web) (o : List Nat) (s : List Int) : Nat → List Int
  | 0 => s
  | k + 1 => a9 w (ba w o s k) o
theorem dL {w : Web} {n : Nat} (W : w.Ok n) (S : dJ w) {o : List Nat} {s : List Int} (F : cW w n s) : ∀ k, cW w n (ba w o s k)
  | 0 => F
  | k + 1 => fz W S o (dL W S F k)
theorem Gc {w : Web} {n : Nat} (W : w.Ok n) (S : dJ w) (sym : ∀ f s, S2 (fun i => w.ties.getD i []) f s n = S2 (fun i => w.ties.getD i []) s f n) (ns : ∀ i p, p ∈ w.ties.getD i [] → p.1 ≠ i) {o : List Nat} (ho : ∀ p ∈ o, p < n) {s : List Int} (F : cW w n s) :
    ∃ r, chL w 0 (ba w o s r) o = [] ∧ ∀ k, k < r → chL w 0 (ba w o s k) o ≠ [] := by
  refine yH ?_
  obtain ⟨L, hL⟩ := low n (wgt w n)
  by_cases h : ∃ t, chL w 0 (ba w o s t) o = []
  · exact h
  · exfalso
    have down : ∀ k : Nat, wgt w n (ba w o s k) + k ≤ wgt w n s := fun k => by
      induction k with
      | zero => simp [ba]
      | succ k ih =>
        have f := ju W S sym ns o 0 ho (dL W S (o := o) F k)
        have ne : chL w 0 (ba w o s k) o ≠ [] := fun z => h ⟨k, z⟩
        have : 1 ≤ (chL w 0 (ba w o s k) o).length := by
          cases c : chL w 0 (ba w o s k) o with
          | nil => exact absurd c ne
          | cons _ _ => simp
        rw [ba]
        omega
    have K := down ((wgt w n s - L).toNat + 1)
    have lb := hL _ (dL W S (o := o) F ((wgt w n s - L).toNat + 1)).len (dL W S F _).op
    have l0 := hL _ F.len F.op
    omega
end Fm
set_option linter.all false
namespace Fm
noncomputable def cw : Fn := a8 1 1 (bi (bo (lOf (fAt (aa 0) (fC (.int 2))))))
noncomputable def fA : Fn := a8 1 1 (bi (bo (lG 2 [] (aw cw (af (aa 0) av)) (gT [0, 1]) [(tE (ao mY (aa 1) (fC .non)))] (aa 0))))
noncomputable abbrev gM : SF := (aC (aH (gN 7) (aw cO (af (aa 0) (af (aa 3) (af (aa 6) av)))))
    (sIf (tE (ao oNe (aa 7) (fAt (aa 3) (aa 6)))) (aC (pM (aa 3) (aa 6) (aa 7))
    (gX (m5 (aa 4) (eW (af (aa 5) (af (aa 6) (af (aa 7) av))))))) bS))
noncomputable def bV : Fn := a8 3 8 (aC (aH (gN 3) (bo (lOf (aa 1))))
    (aC (aH (gN 4) (bo av))
    (aC (wa (aa 2) (gT [5, 6]) gM)
    (bi (aa 4)))))
noncomputable abbrev j6 : SF := (pM (aa 2) (aa 4) (aa 5))
noncomputable def er : Fn := a8 2 6 (aC (aH (gN 2) (bo (lOf (aa 0))))
    (aC (gn (db (aa 1)) (gT [3, 4, 5]) j6)
    (bi (cK (lOf (aa 2))))))
noncomputable abbrev fY : SF := (aC (FC 3 GQ (fC (.int 1)))
    (aC (aH (gN 4) (aw er (af (aa 4) (af (aa 5) av))))
    (aH (gN 5) (aw bV (af (aa 0) (af (aa 4) (af (aa 2) av)))))))
end Fm
set_option linter.all false
namespace Fm
def az (o : List Nat) : List D := o.map fun p => .int (p : Nat)
def du (c : Nat × Nat × Int) : D := .tup [.int c.1, .int c.2.1, .int c.2.2]
theorem Ex {w : Web} {n : Nat} {s : List Int} (W : w.Ok n) (hs : s.length = n) {p : Nat} {r : List (Nat × Int)} (e : w.ties[p]? = some r) {h : Hd} {k : Nat} (hk : h[k]? = some (.lst (s.map .int))) :
    fq [w.enc, .ref k, .int p] h = .ok (.int (2 * cu r s)) h := by
  have hr : ∀ q ∈ r, q.1 < s.length := fun q hq => by rw [hs]; exact W.lt r (List.mem_of_getElem? e) q hq
  have key : cz none (r.map cr) (gT [0, 1]) [(tE (ao oEq (fAt (aa 2) (aa 0)) (fC (.int 1))))] (aa 1) (r.map cr) [none, none, some (.ref k)] h
      = .ok (((r.map cr).filter fun d => match d with | .tup [.int i, _] => decide (s.getD i.toNat 0 = 1) | _ => false).map fun d => match d with | .tup [_, x] => x | _ => .non) h := by
    refine bM (g := none) (I := fun σ => ∃ a b, σ = [a, b, some (.ref k)]) _ _ trivial ?_ ⟨_, _, rfl⟩
    rintro x hx σ ⟨a, b, rfl⟩
    obtain ⟨⟨q, wt⟩, hq, rfl⟩ := List.mem_map.mp hx
    have hlt := hr _ hq
    refine ⟨_, rfl, ⟨_, _, rfl⟩, ?_, fun _ => rfl⟩
    have hlt' : q < s.length := hlt
    by_cases hh : s[q] = 1 <;> simp [hk, cr, yF hlt', peq, dep, List.getD, hlt', hh]
  have k2 : (((r.map cr).filter fun d => match d with | .tup [.int i, _] => decide (s.getD i.toNat 0 = 1) | _ => false).map fun d => match d with | .tup [_, x] => x | _ => .non)
      = (nt r s).map D.int := by
    rw [nt, List.filter_map, List.map_map, List.map_map]
    rfl
  rw [k2] at key
  simp [fq, a8, runB, wp w _ e, kD, key, jt, cu, sml, -List.map_map]
theorem Ey {w : Web} {n : Nat} {s : List Int} (W : w.Ok n) (hs : s.length = n) {p : Nat} (hp : p < n) {h : Hd} {k : Nat} (hk : h[k]? = some (.lst (s.map .int))) : cO [w.enc, .ref k, .int p] h = .ok (.int (bB w s p)) h := by
  have ht : p < w.ties.length := by rw [W.t]; exact hp
  have hb : p < w.bars.length := by rw [W.b]; exact hp
  have hst : p < w.stays.length := by rw [W.s]; exact hp
  have hs' : p < s.length := by omega
  have et : w.ties[p]? = some w.ties[p] := by simp [ht]
  have eb : w.bars[p]? = some w.bars[p] := by simp [hb]
  have es : w.stays[p]? = some w.stays[p] := by simp [hst]
  have pull := Ex W hs et hk
  have gt : w.ties.getD p [] = w.ties[p] := by simp [List.getD, ht]
  have gb : w.bars.getD p 0 = w.bars[p] := by simp [List.getD, hb]
  have gs : w.stays.getD p none = w.stays[p] := by simp [List.getD, hst]
  have gi : s.getD p 0 = s[p] := by simp [List.getD, hs']
  have ai := yF hs'
  cases c : w.stays[p] with
  | some x =>
    rw [c] at es
    have nx : bB w s p = x := by unfold bB; rw [gs, c]
    simp [cO, a8, runB, dU w _ es, bF, nx]
  | none =>
    rw [c] at es
    have sv := dU w h es
    have bv := yE w h eb
    simp only [bF] at sv
    simp only [bB, gs, c, gt, gb, gi]
    by_cases e1 : 2 * cu w.ties[p] s = w.bars[p]
    · simp [cO, a8, runB, sv, bv, pull, peq, dep, e1, hk, ai]
    · by_cases e2 : w.bars[p] < 2 * cu w.ties[p] s
      · simp [cO, a8, runB, sv, bv, pull, peq, dep, e1, e2]
      · simp [cO, a8, runB, sv, bv, pull, peq, dep, e1, e2]
theorem lL (w : Web) : ∀ (o : List Nat) (p : Nat) (s : List Int), a9 w s (o ++ [p]) = (a9 w s o).set p (bB w (a9 w s o) p)
  | [], _, _ => rfl
  | q :: o, p, s => by rw [List.cons_append, a9, a9, lL w o p]
theorem ui (w : Web) : ∀ (o : List Nat) (p k : Nat) (s : List Int), chL w k s (o ++ [p]) = chL w k s o ++ (if bB w (a9 w s o) p = (a9 w s o).getD p 0 then [] else [(k + o.length, p, bB w (a9 w s o) p)])
  | [], p, k, s => by simp [chL, a9]
  | q :: o, p, k, s => by
    rw [List.cons_append, chL, chL, a9]
    by_cases e : bB w s q = s.getD q 0
    · rw [if_pos e, if_pos e, fX e, ui w o p (k + 1) s, show k + 1 + o.length = k + (q :: o).length by simp; omega]
    · rw [if_neg e, if_neg e, ui w o p (k + 1), List.cons_append, show k + 1 + o.length = k + (q :: o).length by simp; omega]
theorem Ge {o : List Nat} {i : Nat} {x : D} (h : (dr (az o))[i]? = some x) : ∃ hi : i < o.length, x = .tup [.int (i : Nat), .int (o[i] : Nat)] := by
  unfold dr az at h
  have hl := (List.getElem?_eq_some_iff.mp h).1
  have hi : i < o.length := by simpa using hl
  refine ⟨hi, ?_⟩
  have := (List.getElem?_eq_some_iff.mp h).2
  rw [← this]; simp
theorem oo {w : Web} {n : Nat} {s : List Int} (W : w.Ok n) (S : dJ w) (F : cW w n s) {o : List Nat} (ho : ∀ p ∈ o, p < n) (lo : o.length ≤ 500) {h : Hd} {k : Nat} (hk : h[k]? = some (.lst (az o))) :
    bV [w.enc, aB s, .ref k] h = .ok (.ref (h.length + 1)) (h ++ [.lst ((a9 w s o).map .int), .lst ((chL w 0 s o).map du)]) := by
  obtain ⟨A, hA⟩ : ∃ A, A = h.length := ⟨_, rfl⟩
  have hkl : k < h.length := (List.getElem?_eq_some_iff.mp hk).1
  obtain ⟨σ', h', k1, k2, a, b, c, k3⟩ := si (P := fun i σ h' => h' = h ++ [.lst ((a9 w s (o.take i)).map .int), .lst ((chL w 0 s (o.take i)).map du)] ∧ ∃ a b c, σ = [some w.enc, some (aB s), some (.ref k), some (.ref A), some (.ref (A + 1)), a, b, c]) (k := 0)
      (G := fun h => h[k]? = some (.lst (az o))) (fun i σ h' q => by rw [q.1, List.getElem?_append_left hkl]; exact hk)
      (xs := dr (az o)) (tg := gT [5, 6]) (σ := [some w.enc, some (aB s), some (.ref k), some (.ref A), some (.ref (A + 1)), none, none, none]) (h := h ++ [.lst (s.map .int), .lst []]) (b := gM) (by
      rintro i x σ h0 hx ⟨hh0, a, b, c, rfl⟩
      obtain ⟨hi, rfl⟩ := Ge hx
      rw [Nat.zero_add] at hh0 ⊢
      have tk : o.take (i + 1) = o.take i ++ [o[i]] := by rw [List.take_succ_eq_append_getElem hi]
      obtain ⟨p, hp⟩ : ∃ p, p = o[i] := ⟨_, rfl⟩
      have pn : p < n := by rw [hp]; exact ho _ (List.getElem_mem hi)
      rw [← hp] at tk ⊢
      obtain ⟨t, ht⟩ : ∃ t, t = a9 w s (o.take i) := ⟨_, rfl⟩
      have Ft : cW w n t := by rw [ht]; exact fz W S _ F
      have e1 := lL w (o.take i) p s
      have e2 := ui w (o.take i) p 0 s
      rw [← tk] at e1 e2
      rw [← ht] at e1 e2 hh0
      have ln : (o.take i).length = i := by simp; omega
      rw [ln, Nat.zero_add] at e2
      have gA : h0[A]? = some (.lst (t.map .int)) := by rw [hh0, hA, List.getElem?_append_right (by omega)]; simp
      have gB : h0[A + 1]? = some (.lst ((chL w 0 s (o.take i)).map du)) := by rw [hh0, hA, List.getElem?_append_right (by omega)]; simp
      have nx := Ey W Ft.len pn gA
      have lp : p < t.length := by rw [Ft.len]; exact pn
      have at1 : atI (t.map D.int) (p : Int) = some (.int (t.getD p 0)) := by rw [yF lp]; simp [List.getD, lp]
      refine ⟨_, rfl, [some w.enc, some (aB s), some (.ref k), some (.ref A), some (.ref (A + 1)), some (.int i), some (.int p), some (.int (bB w t p))], h ++ [.lst ((a9 w s (o.take (i + 1))).map .int), .lst ((chL w 0 s (o.take (i + 1))).map du)], ?_, rfl, _, _, _, rfl⟩
      have s1 : aH (gN 7) (aw cO (af (aa 0) (af (aa 3) (af (aa 6) av)))) [some w.enc, some (aB s), some (.ref k), some (.ref A), some (.ref (A + 1)), some (.int i), some (.int p), c] h0 = .nx [some w.enc, some (aB s), some (.ref k), some (.ref A), some (.ref (A + 1)), some (.int i), some (.int p), some (.int (bB w t p))] h0 := by simp [nx]
      have oi : ∀ (x y : Int) (g : Hd), oNe (.int x) (.int y) g = .ok (.bl (!decide (x = y))) g := fun _ _ _ => rfl
      show aC _ _ [some w.enc, some (aB s), some (.ref k), some (.ref A), some (.ref (A + 1)), some (.int i), some (.int p), c] h0 = _
      rw [bA s1]
      by_cases q : bB w t p = t.getD p 0
      · rw [e1, e2, if_pos q, fX q, List.append_nil, ← hh0]
        simp [-oNe, -eqG, -List.getD_eq_getElem?_getD, gA, at1, oi, q]
      · rw [e1, e2, if_neg q]
        have ix : ixN t.length (p : Int) = some p := by simp [ixN, lp]
        have lz : (chL w 0 s (o.take i)).length < 1000000 := by have := yI w (o.take i) 0 s; omega
        have st1 : h0.set A (.lst ((t.map .int).set p (.int (bB w t p)))) = h ++ [.lst ((t.set p (bB w t p)).map .int), .lst ((chL w 0 s (o.take i)).map du)] := by
          rw [hh0, hA, List.set_append_right _ _ (by omega)]; simp [List.map_set]
        have g2 : (h ++ [bL.lst ((t.set p (bB w t p)).map .int), .lst ((chL w 0 s (o.take i)).map du)])[A + 1]? = some (.lst ((chL w 0 s (o.take i)).map du)) := by rw [hA, List.getElem?_append_right (by omega)]; simp
        have st2 : (h ++ [bL.lst ((t.set p (bB w t p)).map .int), .lst ((chL w 0 s (o.take i)).map du)]).set (A + 1) (.lst ((chL w 0 s (o.take i)).map du ++ [.tup [.int i, .int p, .int (bB w t p)]])) = h ++ [.lst ((t.set p (bB w t p)).map .int), .lst ((chL w 0 s (o.take i) ++ [(i, p, bB w t p)]).map du)] := by
          rw [hA, List.set_append_right _ _ (by omega)]; simp [du]
        simp [-oNe, -eqG, -List.getD_eq_getElem?_getD, -List.map_append, -List.map_set, gA, at1, oi, q, ix, st1, g2, SZ, lz, st2]) ⟨by simp [a9, chL], _, _, _, rfl⟩
  have e0 : 0 + (dr (az o)).length = o.length := by simp [dr, az]
  rw [e0, List.take_length] at k2
  have lz : s.length ≤ 1000000 := by have := W.sz; have := F.len; omega
  have s1 : aH (gN 3) (bo (lOf (aa 1))) [some w.enc, some (aB s), some (.ref k), none, none, none, none, none] h = .nx [some w.enc, some (aB s), some (.ref k), some (.ref A), none, none, none, none] (h ++ [.lst (s.map .int)]) := by simp [aB, SZ, lz, hA]
  have s2 : aH (gN 4) (bo av) [some w.enc, some (aB s), some (.ref k), some (.ref A), none, none, none, none] (h ++ [.lst (s.map .int)]) = .nx [some w.enc, some (aB s), some (.ref k), some (.ref A), some (.ref (A + 1)), none, none, none] (h ++ [.lst (s.map .int), .lst []]) := by simp [SZ, hA]
  have hk2 : (h ++ [bL.lst (s.map .int), .lst []])[k]? = some (.lst (az o)) := by rw [List.getElem?_append_left hkl]; exact hk
  have s3 : wa (aa 2) (gT [5, 6]) gM [some w.enc, some (aB s), some (.ref k), some (.ref A), some (.ref (A + 1)), none, none, none] (h ++ [.lst (s.map .int), .lst []]) = .nx [some w.enc, some (aB s), some (.ref k), some (.ref A), some (.ref (A + 1)), a, b, c] h' := by
    rw [k3] at k1
    simp only [wa, aa, slot, List.getElem?_cons_succ, List.getElem?_cons_zero, hk2]
    exact k1
  have s4 : bi (aa 4) [some w.enc, some (aB s), some (.ref k), some (.ref A), some (.ref (A + 1)), a, b, c] h' = .rt (.ref (A + 1)) h' := by simp
  have st : ([w.enc, aB s, D.ref k].map some ++ List.replicate (8 - [w.enc, aB s, D.ref k].length) none : Sd) = [some w.enc, some (aB s), some (.ref k), none, none, none, none, none] := rfl
  unfold bV a8 runB
  rw [if_pos (by rfl), st, bA s1, bA s2, bA s3, s4, ← hA, ← k2]
  exact n6
end Fm
set_option linter.all false
namespace Fm
theorem Ez {B : SF} (hB : B = pM (aa 2) (aa 4) (aa 5)) {n A k : Nat} {a b : D} {ch : List (Nat × Nat × Int)} (hc : ∀ c ∈ ch, c.2.1 < n) {h : Hd} (hk : h[k]? = some (.lst (ch.map du))) (hA : A = h.length) {s : List Int} (hs : s.length = n) :
    ∃ x y z, cV (some k) (ch.map du) (gT [3, 4, 5]) B (ch.map du) [some a, some b, some (.ref A), none, none, none] (h ++ [.lst (s.map .int)]) = .nx [some a, some b, some (.ref A), x, y, z] (h ++ [.lst ((cT ch s).map .int)]) := by
  subst hB
  have hkl : k < h.length := (List.getElem?_eq_some_iff.mp hk).1
  have ap : ∀ (l : List (Nat × Nat × Int)) c t, cT (l ++ [c]) t = (cT l t).set c.2.1 c.2.2 := fun l => by
    induction l with
    | nil => intro c t; rfl
    | cons d l ih => intro c t; rw [List.cons_append, cT, cT, ih]
  have al : ∀ (l : List (Nat × Nat × Int)) t, (cT l t).length = t.length := fun l => by
    induction l with
    | nil => intro t; rfl
    | cons d l ih => intro t; rw [cT, ih, List.length_set]
  obtain ⟨σ', h', k1, k2, x, y, z, k3⟩ := cg (P := fun i σ h' => h' = h ++ [.lst ((cT (ch.take i) s).map .int)] ∧ ∃ x y z, σ = [some a, some b, some (.ref A), x, y, z]) (g := some k) (k := 0)
      (all := ch.map du) (fun i σ h' q => by show h'[k]? = _; rw [q.1, List.getElem?_append_left hkl]; exact hk)
      (xs := ch.map du) (tg := gT [3, 4, 5]) (σ := [some a, some b, some (.ref A), none, none, none]) (h := h ++ [.lst (s.map .int)]) (b := pM (aa 2) (aa 4) (aa 5)) (by
      rintro i x σ h0 hx ⟨rfl, u, v, t, rfl⟩
      rw [Nat.zero_add]
      have hi : i < ch.length := by have := (List.getElem?_eq_some_iff.mp hx).1; simpa using this
      have hx' : x = du ch[i] := by simpa [hi] using hx.symm
      subst hx'
      have tk : ch.take (i + 1) = ch.take i ++ [ch[i]] := by rw [List.take_succ_eq_append_getElem hi]
      have c1 := hc _ (List.getElem_mem hi)
      rw [tk, ap]
      generalize ch[i] = c at c1 ⊢
      have lt : c.2.1 < (cT (ch.take i) s).length := by rw [al, hs]; exact c1
      have ix : ixN (cT (ch.take i) s).length (c.2.1 : Int) = some c.2.1 := by simp [ixN, lt]
      refine ⟨[some a, some b, some (.ref A), some (.int c.1), some (.int c.2.1), some (.int c.2.2)], rfl, [some a, some b, some (.ref A), some (.int c.1), some (.int c.2.1), some (.int c.2.2)], _, ?_, rfl, _, _, _, rfl⟩
      simp [-List.map_set, hA, ix, List.map_set]) ⟨rfl, _, _, _, rfl⟩
  have e0 : 0 + (ch.map du).length = ch.length := by simp
  rw [e0, List.take_length] at k2
  exact ⟨x, y, z, by rw [k1, k2, k3]⟩
theorem EA {w : Web} {n : Nat} : ∀ {o : List Nat} {k : Nat} {s : List Int}, (∀ p ∈ o, p < n) → ∀ c ∈ chL w k s o, c.2.1 < n
  | [], _, _, _, c, hc => by cases hc
  | p :: o, k, s, ho, c, hc => by
    rw [chL] at hc
    have ho' : ∀ q ∈ o, q < n := fun q hq => ho q (by simp [hq])
    split at hc
    · exact EA ho' c hc
    · rcases List.mem_cons.mp hc with e | hc
      · rw [e]; exact ho p (by simp)
      · exact EA ho' c hc
theorem yJ {n : Nat} (hn : n ≤ 1000) {ch : List (Nat × Nat × Int)} (hc : ∀ c ∈ ch, c.2.1 < n) {h : Hd} {k : Nat} (hk : h[k]? = some (.lst (ch.map du))) {s : List Int} (hs : s.length = n) : er [aB s, .ref k] h = .ok (aB (cT ch s)) h := by
  obtain ⟨x, y, z, lp⟩ := Ez (B := j6) rfl (a := aB s) (b := .ref k) hc hk rfl hs
  have hkl : k < h.length := (List.getElem?_eq_some_iff.mp hk).1
  have lz : s.length ≤ 1000000 := by omega
  have s1 : aH (gN 2) (bo (lOf (aa 0))) [some (aB s), some (.ref k), none, none, none, none] h = .nx [some (aB s), some (.ref k), some (.ref h.length), none, none, none] (h ++ [.lst (s.map .int)]) := by simp [aB, SZ, lz]
  have hk2 : (h ++ [bL.lst (s.map .int)])[k]? = some (.lst (ch.map du)) := by rw [List.getElem?_append_left hkl]; exact hk
  have s2 : gn (db (aa 1)) (gT [3, 4, 5]) j6 [some (aB s), some (.ref k), some (.ref h.length), none, none, none] (h ++ [.lst (s.map .int)]) = .nx [some (aB s), some (.ref k), some (.ref h.length), x, y, z] (h ++ [.lst ((cT ch s).map .int)]) := by
    simp only [gn, db, aa, slot, List.getElem?_cons_succ, List.getElem?_cons_zero, aQ, hk2]
    exact lp
  have s3 : bi (cK (lOf (aa 2))) [some (aB s), some (.ref k), some (.ref h.length), x, y, z] (h ++ [.lst ((cT ch s).map .int)]) = .rt (aB (cT ch s)) (h ++ [.lst ((cT ch s).map .int)]) := by simp [aB]
  have st : ([aB s, D.ref k].map some ++ List.replicate (6 - [aB s, D.ref k].length) none : Sd) = [some (aB s), some (.ref k), none, none, none, none] := rfl
  have pu : ∀ l : List Int, pure? (aB l) = true := fun l => by
    unfold aB; simp only [pure?]
    induction l with
    | nil => rfl
    | cons x l ih => simp [dn, pure?, ih]
  unfold er a8 runB
  rw [if_pos (by rfl), st, bA s1, bA s2, s3]
  exact el (pu _)
theorem sD (l : List (Option Int)) : dr (l.map bF) = (List.range l.length).map fun i => D.tup [.int (i : Nat), bF (l.getD i none)] := by
  apply List.ext_getElem
  · simp [dr]
  · intro i h1 h2
    have hi : i < l.length := by simpa using h2
    simp [dr, hi, List.getD]
theorem oq {w : Web} {n : Nat} (W : w.Ok n) (hn : n ≤ 1000) (h : Hd) : ∃ l : List Nat, fA [w.enc] h = .ok (.ref (h.length + 1)) (h ++ [.lst (w.stays.map bF), .lst (az l)]) ∧ (∀ p ∈ l, p < n ∧ w.stays.getD p none = none) ∧ ∀ p, p < n → w.stays.getD p none = none → p ∈ l := by
  have ls := W.s
  obtain ⟨h1, hh1⟩ : ∃ h1 : Hd, h1 = h ++ [.lst (w.stays.map bF)] := ⟨_, rfl⟩
  have g1 : h1[h.length]? = some (.lst (w.stays.map bF)) := by rw [hh1]; simp
  have so : cw [w.enc] h = .ok (.ref h.length) h1 := by
    have z : w.stays.length ≤ 1000000 := by omega
    rw [hh1]
    simp [cw, a8, runB, Web.enc, SZ, z]
  have key := n5 (G := fun h' => h'[h.length]? = some (.lst (w.stays.map bF))) (tg := gT [0, 1]) (cs := [(tE (ao mY (aa 1) (fC .non)))]) (e := aa 0) (h := h1) (I := fun σ => ∃ a b, σ = [a, b]) (fun d => match d with | .tup [.int i, _] => (w.stays.getD i.toNat none).isNone | _ => false) (fun d => match d with | .tup [i, _] => i | _ => .non) g1
    (xs := dr (w.stays.map bF)) (σ := [none, none]) (by
      rintro x hx σ ⟨c, d, rfl⟩
      rw [sD] at hx
      obtain ⟨i, hi, rfl⟩ := List.mem_map.mp hx
      refine ⟨_, rfl, ⟨_, _, rfl⟩, ?_, fun _ => rfl⟩
      simp only [Int.toNat_natCast]
      cases w.stays.getD i none <;> simp [bF]) ⟨_, _, rfl⟩
  have fe : ((dr (w.stays.map bF)).filter fun d => match d with | .tup [.int i, _] => (w.stays.getD i.toNat none).isNone | _ => false).map (fun d => match d with | .tup [i, _] => i | _ => .non) = az ((List.range n).filter fun i => (w.stays.getD i none).isNone) := by
    rw [sD, List.filter_map, List.map_map, ls]; rfl
  rw [fe] at key
  refine ⟨(List.range n).filter fun i => (w.stays.getD i none).isNone, ?_, fun p hp => ?_, fun p hp hq => List.mem_filter.mpr ⟨List.mem_range.mpr hp, by rw [hq]; rfl⟩⟩
  · have lz : (az ((List.range n).filter fun i => (w.stays.getD i none).isNone)).length ≤ 1000000 := by
      have := List.length_filter_le (fun i => (w.stays.getD i none).isNone) (List.range n)
      simp only [az, List.length_map]
      simp only [List.length_range] at this
      omega
    generalize az ((List.range n).filter fun i => (w.stays.getD i none).isNone) = l at key lz ⊢
    have k : lG 2 [] (aw cw (af (aa 0) av)) (gT [0, 1]) [(tE (ao mY (aa 1) (fC .non)))] (aa 0) [some w.enc] h = .ok l h1 := by
      have q : aw cw (af (aa 0) av) [some w.enc] h = .ok (.ref h.length) h1 := by simp [so]
      generalize aw cw (af (aa 0) av) = E at q ⊢
      simp only [lG, q, g1]
      exact key
    unfold fA a8 runB
    generalize lG 2 [] (aw cw (af (aa 0) av)) (gT [0, 1]) [(tE (ao mY (aa 1) (fC .non)))] (aa 0) = E at k ⊢
    simp [k, SZ, lz, hh1]
  · have := List.mem_filter.mp hp
    exact ⟨List.mem_range.mp this.1, by simpa using this.2⟩
theorem Bw {ch : List (Nat × Nat × Int)} {h : Hd} {c e : Nat} (hc : h[c]? = some (.lst (ch.map du))) (he : h[e]? = some (.lst [])) : oNe (.ref c) (.ref e) h = .ok (.bl (!decide (ch = []))) h := by
  cases ch with
  | nil => simp [hc, he, eqL, gF, jT]
  | cons x l =>
    have d3 : ∀ l : List (Nat × Nat × Int), jT (l.map du) ≤ 20 := fun l => by
      induction l with
      | nil => simp [jT]
      | cons x l ih => simp only [List.map_cons, jT, du, dep] at ih ⊢; omega
    have d := d3 (x :: l)
    unfold oNe eqG bP
    simp only [hc, he, eqL, if_pos d]
    simp
end Fm
set_option linter.all false
namespace Fm
noncomputable abbrev fB : SF := (aC (aH (gN 5) (ao ie (ao dw (ao cE (ao cE (ao cE (aa 2) (ao dw (fC (.int 31)) (aa 1))) (ao dw (aa 4) (aa 4))) (fC (.int 7))) (fC (.int 48271))) (fC (.int 2147483629))))
    (aC (aH (gN 5) (ao ie (ao dw (ao cE (aa 5) (fC (.int 5))) (ao cE (ao cE (aa 5) (aa 4)) (fC (.int 3)))) (fC (.int 2147483587))))
    (aC (aH (gN 5) (ao ie (ao dw (ao cE (aa 5) (aa 1)) (fC (.int 69621))) (fC (.int 2147483563))))
    (aH (gN 3) (ao cE (ao dw (aa 3) (fC (.int 2147483563))) (ao ie (ao dw (aa 5) (ao cE (aa 5) (fC (.int 11)))) (fC (.int 2147483549))))))))
noncomputable def cC : Fn := a8 2 6 (aC (aH (gN 2) (fC (.int 11)))
    (aC (sIf (tE (ao oGt (ei (lOf (aa 0))) (fC (.int 0)))) (aH (gN 2) (ao ie (fAt (aa 0) (ao ie (aa 1) (ei (lOf (aa 0))))) (fC (.int 2147483647)))) bS)
    (aC (aH (gN 3) (fC (.int 0)))
    (aC (gn (bZ (fC (.int 9))) (gN 4) fB)
    (bi (aa 3))))))
noncomputable def aY : Fn := a8 2 2 (aC (sIf (jR (tE (ao oLt (aa 1) (ei (lOf (aa 0))))) (tE (ao oEq (ao ie (fAt (aa 0) (fC (.int 0))) (fC (.int 2))) (fC (.int 0))))) (bi (fAt (aa 0) (aa 1))) bS)
    (bi (aw cC (af (aa 0) (af (aa 1) av)))))
noncomputable def ar : Fn := a8 2 3 (aC (aH (gN 2) (ao ie (fAt (aa 0) (fC (.int 0))) (aa 1)))
    (aC (pM (aa 0) (fC (.int 0)) (ao HG (fAt (aa 0) (fC (.int 0))) (aa 1)))
    (bi (aa 2))))
noncomputable def cI : Fn := a8 2 3 (aC (sIf (tE (ao oEq (aa 1) (fC (.int 0)))) (aC (aH (gN 2) (aw ar (af (aa 0) (af (fC (.int 800)) av))))
    (bi (ao dw (aa 2) (DG (ao oLt (aa 2) (fC (.int 401))))))) bS)
    (aC (sIf (tE (ao oEq (aa 1) (fC (.int 1)))) (bi (fIx (af (fC (.int 0)) (af (fC (.int 0)) (af (fC (.int 0)) (af (fC (.int 0)) (af (fC (.int 0)) (af (fC (.int 1)) (af (fC (.int 1)) (af (fC (.int 2)) (af (fC (.int 3)) av))))))))) (aw ar (af (aa 0) (af (fC (.int 9)) av))))) bS)
    (bi (fIx (af (fC (.int 0)) (af (fC (.int 0)) (af (fC (.int 0)) (af (fC (.int 1)) av)))) (aw ar (af (aa 0) (af (fC (.int 4)) av)))))))
noncomputable def eK : Fn := a8 2 3 (aC (aH (gN 2) (aw ar (af (aa 0) (af (fC (.int 6)) av))))
    (aC (sIf (tE (ao oLt (aa 2) (fC (.int 2)))) (bi (aa 1)) bS)
    (aC (sIf (tE (ao oEq (aa 2) (fC (.int 2)))) (bi (ao cE (ao vO (aa 1) (fC (.int 3))) (aw ar (af (aa 0) (af (fC (.int 7)) av))))) bS)
    (aC (sIf (tE (ao oLt (aa 2) (fC (.int 5)))) (bi (ao vO (aw ar (af (aa 0) (af (ao cE (ao dw (fC (.int 2)) (aa 1)) (fC (.int 5))) av))) (fC (.int 2)))) bS)
    (bi (ao cE (ao vO (aw ar (af (aa 0) (af (ao vO (ao dw (fC (.int 2)) (ao DF (fC (.int 10)) (fC (.int 60)))) (fC (.int 1))) av))) (ao DF (fC (.int 10)) (fC (.int 60)))) (fC (.int 1))))))))
noncomputable abbrev kH : SF := (aC (gX (m5 (aa 9) (aw eK (af (fAt (aa 3) (aa 5)) (af (kr (bO 2 [] (db (fAt (aa 4) (aa 5))) (gT [0, 1]) [] (aa 1))) av)))))
    (aC (aH (gN 11) (fIx (af (fC .non) (af (fC .non) (af (fC .non) (af (fC .non) (af (fC .non) (af (fC (.int 0)) (af (fC (.int 1)) av))))))) (aw ar (af (fAt (aa 3) (aa 5)) (af (fC (.int 7)) av)))))
    (aC (sIf (jR (tE (ao mY (aa 11) (fC .non))) (tE (ao oGt (jU (aa 10) (fC .non)) (fC (.int 7))))) (aH (gN 11) (aw ar (af (fAt (aa 3) (aa 5)) (af (fC (.int 2)) av)))) bS)
    (gX (m5 (aa 10) (aa 11))))))
noncomputable abbrev i6 : SF := (aC (aH (gN 8) (aw cI (af (fAt (aa 3) (aa 5)) (af (aa 6) av))))
    (sIf (tE (ao oGt (aa 8) (fC (.int 0)))) (aC (gX (m5 (fAt (aa 4) (aa 5)) (eW (af (aa 7) (af (aa 8) av)))))
    (gX (m5 (fAt (aa 4) (aa 7)) (eW (af (aa 5) (af (aa 8) av)))))) bS))
noncomputable abbrev kI : SF := (aC (aH (gN 6) (aw ar (af (fAt (aa 3) (aa 5)) (af (fC (.int 3)) av))))
    (gn (bZ (aa 5)) (gN 7) i6))
noncomputable def jv : Fn := a8 1 12 (aC (aH (gN 1) (bo (af (ao HG (aw aY (af (aa 0) (af (fC (.int 0)) av))) (fC (.int 2))) av)))
    (aC (aH (gN 2) (ao cE (fC (.int 1)) (aw ar (af (aa 1) (af (fIx (af (fC (.int 7)) (af (fC (.int 7)) (af (fC (.int 12)) (af (fC (.int 30)) av)))) (aw ar (af (aa 1) (af (fC (.int 4)) av)))) av)))))
    (aC (aH (gN 3) (bo (bO 1 [0] (bZ (aa 2)) (gN 0) [] (bo (af (aw aY (af (aa 1) (af (ao cE (fC (.int 1)) (aa 0)) av))) av)))))
    (aC (aH (gN 4) (bo (bO 1 [] (bZ (aa 2)) (gN 0) [] (bo av))))
    (aC (gn (bZ (aa 2)) (gN 5) kI)
    (aC (aH (gN 9) (bo av))
    (aC (aH (gN 10) (bo av))
    (aC (gn (bZ (aa 2)) (gN 5) kH)
    (bi (eW (af (eW (af (cK (bO 1 [] (db (aa 4)) (gN 0) [] (cK (lu (aa 0))))) (af (cK (lOf (aa 9))) (af (cK (lOf (aa 10))) av)))) (af (aa 3) (af (aa 1) av)))))))))))))
noncomputable abbrev jw : SF := (aC (aH (gN 6) (ao cE (fC (.int 1)) (ao dw (aa 2) (aa 5))))
    (aC (gX (m5 (fAt (aa 4) (aa 5)) (eW (af (ao ie (ao cE (aa 5) (fC (.int 1))) (aa 1)) (af (aa 6) av)))))
    (gX (m5 (fAt (aa 4) (ao ie (ao cE (aa 5) (fC (.int 1))) (aa 1))) (eW (af (aa 5) (af (aa 6) av)))))))
noncomputable abbrev eu : SF := (aC (aH (gN 4) (aw ar (af (fAt (aa 1) (aa 3)) (af (fC (.int 2)) av))))
    (aC (sIf (tE (ao kq (fAt (fAt (aa 0) (fC (.int 2))) (aa 3)) (fC .non))) (aH (gN 4) (fAt (fAt (aa 0) (fC (.int 2))) (aa 3))) bS)
    (gX (m5 (aa 2) (aa 4)))))
noncomputable def fD : Fn := a8 2 5 (aC (aH (gN 2) (bo av))
    (aC (gn (bZ (ei (lOf (aa 1)))) (gN 3) eu)
    (bi (cK (lOf (aa 2))))))
end Fm
set_option linter.all false
namespace Fm
theorem dM {x : Int} (h0 : 0 ≤ x) (h1 : x < 4611686018427387904) : sml x = true := by
  simp only [sml, Bool.and_eq_true, decide_eq_true_eq]; omega
theorem cM {n i : Nat} {x : D} (hx : ((List.range n).map fun k : Nat => D.int k)[i]? = some x) : i < n ∧ x = .int (i : Nat) := by
  have hi : i < n := by
    have := (List.getElem?_eq_some_iff.mp hx).1
    simpa using this
  exact ⟨hi, by simpa [hi, List.getElem?_eq_getElem] using hx.symm⟩
theorem b1l (L : D) (k sd fv j : Int) (a b : Option D) (h0 : Hd) (e1 : sml 31 = true) (e2 : sml 48271 = true) (e3 : sml j = true) :
   aH (gN 5) (ao ie (ao dw (ao cE (ao cE (ao cE (aa 2) (ao dw (fC (.int 31)) (aa 1))) (ao dw (aa 4) (aa 4))) (fC (.int 7))) (fC (.int 48271))) (fC (.int 2147483629))) [some L, some (.int k), some (.int sd), some (.int fv), some (.int j), b] h0
   = .nx [some L, some (.int k), some (.int sd), some (.int fv), some (.int j), some (.int ((sd + 31 * k + j * j + 7) * 48271 % 2147483629))] h0 := by
  simp [e1, e2, e3]
theorem b2l (L : D) (k sd fv j n1 : Int) (a b : Option D) (h0 : Hd) (e6 : sml (n1 + 5) = true) :
   aH (gN 5) (ao ie (ao dw (ao cE (aa 5) (fC (.int 5))) (ao cE (ao cE (aa 5) (aa 4)) (fC (.int 3)))) (fC (.int 2147483587))) [some L, some (.int k), some (.int sd), some (.int fv), some (.int j), some (.int n1)] h0
   = .nx [some L, some (.int k), some (.int sd), some (.int fv), some (.int j), some (.int ((n1 + 5) * (n1 + j + 3) % 2147483587))] h0 := by
  simp [e6]
theorem b3l (L : D) (k sd fv j n1 : Int) (a b : Option D) (h0 : Hd) (e6 : sml 69621 = true) :
   aH (gN 5) (ao ie (ao dw (ao cE (aa 5) (aa 1)) (fC (.int 69621))) (fC (.int 2147483563))) [some L, some (.int k), some (.int sd), some (.int fv), some (.int j), some (.int n1)] h0
   = .nx [some L, some (.int k), some (.int sd), some (.int fv), some (.int j), some (.int ((n1 + k) * 69621 % 2147483563))] h0 := by
  simp [e6]
theorem b4l (L : D) (k sd fv j n1 : Int) (a b : Option D) (h0 : Hd) (e5 : sml 2147483563 = true) (e6 : sml n1 = true) :
   aH (gN 3) (ao cE (ao dw (aa 3) (fC (.int 2147483563))) (ao ie (ao dw (aa 5) (ao cE (aa 5) (fC (.int 11)))) (fC (.int 2147483549)))) [some L, some (.int k), some (.int sd), some (.int fv), some (.int j), some (.int n1)] h0
   = .nx [some L, some (.int k), some (.int sd), some (.int (fv * 2147483563 + n1 * (n1 + 11) % 2147483549)), some (.int j), some (.int n1)] h0 := by
  simp [e5, e6]
theorem b5l (L : D) (k sd fv j : Int) (a b : Option D) (h0 : Hd) (e1 : sml 31 = true) (e2 : sml 48271 = true) (e3 : sml j = true) (e4 : sml 69621 = true) (e5 : sml 2147483563 = true) (e6 : ∀ x : Int, sml (x % 2147483629 + 5) = true) (e7 : ∀ x : Int, sml (x % 2147483563) = true) :
   ∃ fv' n, fB [some L, some (.int k), some (.int sd), some (.int fv), some (.int j), b] h0 = .nx [some L, some (.int k), some (.int sd), some (.int fv'), some (.int j), some (.int n)] h0 := by
  have q1 := b1l L k sd fv j a b h0 e1 e2 e3
  have q2 := b2l L k sd fv j _ a b h0 (e6 ((sd + 31 * k + j * j + 7) * 48271))
  have q3 := fun n => b3l L k sd fv j n a b h0 e4
  have q4 := fun n => b4l L k sd fv j _ a b h0 e5 (e7 n)
  refine ⟨?_, ?_, ?_⟩
  rotate_left 2
  · simp only [fB, aC, q1, q2, q3, q4]
    rfl
theorem Gf (ns : List Int) (k : Int) (hk : 0 ≤ k ∧ k ≤ 1000) (h : Hd) : ∃ v, cC [.lit (ns.map .int), .int k] h = .ok (.int v) h := by
  have seed : ∃ sd, (if 0 < (ns.length : Int) then (match atI (ns.map D.int) (k % ns.length) with | some (.int y) => some (y % 2147483647) | _ => none) else some 11) = some sd := by
    by_cases e : 0 < (ns.length : Int)
    · have h1 := Int.emod_nonneg k (show (ns.length : Int) ≠ 0 by omega)
      have h2 := Int.emod_lt_of_pos k e
      have h3 : (k % ns.length).toNat < ns.length := by omega
      have h4 := j5 (f := D.int) h3
      rw [show (((k % ns.length).toNat : Nat) : Int) = k % ns.length by omega] at h4
      exact ⟨_, by rw [if_pos e, h4]⟩
    · exact ⟨11, by rw [if_neg e]⟩
  obtain ⟨sd, hsd⟩ := seed
  obtain ⟨σ', h', h1, h2, fv, a, b, h3⟩ := cg (P := fun _ σ h' => h' = h ∧ ∃ fv a b, σ = [some (.lit (ns.map .int)), some (.int k), some (.int sd), some (.int fv), a, b]) (g := none) (k := 0)
      (all := (List.range 9).map fun k : Nat => D.int k) (fun _ _ _ _ => trivial)
      (xs := (List.range 9).map fun k : Nat => D.int k) (tg := gN 4) (σ := [some (.lit (ns.map .int)), some (.int k), some (.int sd), some (.int 0), none, none]) (h := h)
      (b := fB) (by
      rintro i x σ h0 hx ⟨rfl, fv, a, b, rfl⟩
      obtain ⟨hi, rfl⟩ := cM hx
      have j0 : (0 : Int) ≤ (i : Int) := by omega
      have j1 : (i : Int) < 9 := by omega
      clear hx hi
      generalize ((i : Nat) : Int) = j at j0 j1 ⊢
      have e1 : sml 31 = true := dM (by omega) (by omega)
      have e2 : sml 48271 = true := dM (by omega) (by omega)
      have e3 : sml j = true := dM (by omega) (by omega)
      have e4 : sml 69621 = true := dM (by omega) (by omega)
      have e5 : sml 2147483563 = true := dM (by omega) (by omega)
      have e6 : ∀ x : Int, sml (x % 2147483629 + 5) = true := fun x => dM (by have := Int.emod_nonneg x (show (2147483629 : Int) ≠ 0 by omega); omega) (by have := Int.emod_lt_of_pos x (show (0 : Int) < 2147483629 by omega); omega)
      have e7 : ∀ x : Int, sml (x % 2147483563) = true := fun x => dM (Int.emod_nonneg x (by omega)) (by have := Int.emod_lt_of_pos x (show (0 : Int) < 2147483563 by omega); omega)
      obtain ⟨fv', n', q⟩ := b5l (.lit (ns.map .int)) k sd fv j a b h0 e1 e2 e3 e4 e5 e6 e7
      exact ⟨_, rfl, _, _, q, rfl, _, _, _, rfl⟩) ⟨rfl, _, _, _, rfl⟩
  subst h2 h3
  refine ⟨fv, ?_⟩
  by_cases e : 0 < (ns.length : Int)
  · rw [if_pos e] at hsd
    cases q : atI (ns.map D.int) (k % ns.length) with
    | none => rw [q] at hsd; cases hsd
    | some y =>
      cases y with
      | int y =>
        rw [q] at hsd
        have hsd : y % 2147483647 = sd := by simpa using hsd
        have e' : 0 < ns.length := by omega
        simp [cC, a8, runB, e, e', q, hsd, h1]
      | _ => rw [q] at hsd; cases hsd
  · rw [if_neg e] at hsd
    have hsd : 11 = sd := by simpa using hsd
    subst hsd
    have e' : ¬ 0 < ns.length := by omega
    simp [cC, a8, runB, e, e', h1]
theorem Bx (ns : List Int) (k : Nat) (hk : k ≤ 1000) (h : Hd) : ∃ v, aY [.lit (ns.map .int), .int k] h = .ok (.int v) h := by
  obtain ⟨v, hv⟩ := Gf ns k (by omega) h
  by_cases e : k < ns.length
  · have h0 : 0 < ns.length := by omega
    have p0 := j5 (f := D.int) h0
    have pk := j5 (f := D.int) e
    rw [show ((0 : Nat) : Int) = 0 from rfl] at p0
    by_cases ev : ns[0] % 2 = 0
    · exact ⟨ns[k], by simp [aY, a8, runB, e, p0, pk, ev, peq, dep]⟩
    · exact ⟨v, by simp [aY, a8, runB, e, p0, pk, ev, peq, dep, hv]⟩
  · exact ⟨v, by simp [aY, a8, runB, e, hv]⟩
theorem aT {h : Hd} {n : Nat} {x m : Int} (hn : h[n]? = some (.lst [.int x])) (hm : 0 < m) (hm2 : m < 2 ^ 250) :
    ar [.ref n, .int m] h = .ok (.int (x % m)) (h.set n (.lst [.int (x / m)])) := by
  have z : ixN 1 0 = some 0 := by decide
  simp only [Int.reducePow] at hm2
  simp [ar, a8, runB, hn, hm, hm2, z]
theorem pick {α : Type} (f : α → D) (l : List α) (x m : Int) (hm : m = l.length) (h : 0 < m) : ∃ v ∈ l, atI (l.map f) (x % m) = some (f v) := by
  have h1 := Int.emod_nonneg x (show m ≠ 0 by omega)
  have h2 := Int.emod_lt_of_pos x h
  have h3 : (x % m).toNat < l.length := by omega
  refine ⟨l[(x % m).toNat], List.getElem_mem h3, ?_⟩
  have := j5 (f := f) h3
  rwa [show (((x % m).toNat : Nat) : Int) = x % m by omega] at this
theorem Ce {h : Hd} {n : Nat} {x s : Int} (hn : h[n]? = some (.lst [.int x])) : ∃ v y, cI [.ref n, .int s] h = .ok (.int v) (h.set n (.lst [.int y])) ∧ 0 ≤ v ∧ v ≤ 400 := by
  by_cases e0 : s = 0
  · have b0 := Int.emod_nonneg x (show (800 : Int) ≠ 0 by omega)
    have b1 := Int.emod_lt_of_pos x (show (0 : Int) < 800 by omega)
    have e1 : sml (x % 800) = true := dM b0 (by omega)
    by_cases e2 : x % 800 < 401
    · exact ⟨x % 800, x / 800, by simp [cI, a8, runB, e0, peq, dep, aT hn, e1, e2], b0, by omega⟩
    · exact ⟨0, x / 800, by simp [cI, a8, runB, e0, peq, dep, aT hn, e1, e2], by omega, by omega⟩
  · by_cases e1 : s = 1
    · obtain ⟨v, hv, q⟩ := pick D.int [0, 0, 0, 0, 0, 1, 1, 2, 3] x 9 rfl (by omega)
      simp only [List.map_cons, List.map_nil] at q
      refine ⟨v, x / 9, by simp [cI, a8, runB, e0, e1, peq, dep, aT hn, q], ?_⟩
      simp at hv
      omega
    · obtain ⟨v, hv, q⟩ := pick D.int [0, 0, 0, 1] x 4 rfl (by omega)
      simp only [List.map_cons, List.map_nil] at q
      refine ⟨v, x / 4, by simp [cI, a8, runB, e0, e1, peq, dep, aT hn, q], ?_⟩
      simp at hv
      omega
theorem Iv {h : Hd} {n : Nat} {x t : Int} (hn : h[n]? = some (.lst [.int x])) (t0 : 0 ≤ t) (t1 : t ≤ 1000000) : ∃ v y, eK [.ref n, .int t] h = .ok (.int v) (h.set n (.lst [.int y])) := by
  have hlt : n < h.length := (List.getElem?_eq_some_iff.mp hn).1
  have hn2 : (h.set n (.lst [.int (x / 6)]))[n]? = some (.lst [.int (x / 6)]) := by simp [hlt]
  have d1 := aT hn (show (0 : Int) < 6 by omega) (by simp)
  by_cases e0 : x % 6 < 2
  · exact ⟨t, x / 6, by simp [eK, a8, runB, d1, e0]⟩
  · by_cases e1 : x % 6 = 2
    · have d2 := aT hn2 (show (0 : Int) < 7 by omega) (by simp)
      exact ⟨_, _, by simp [eK, a8, runB, d1, e0, e1, peq, dep, d2]; exact ⟨rfl, rfl⟩⟩
    · by_cases e2 : x % 6 < 5
      · have d2 := aT hn2 (m := 2 * t + 5) (by omega) (by simp; omega)
        have s2 : sml 2 = true := by decide
        exact ⟨_, _, by simp [eK, a8, runB, d1, e0, e1, e2, peq, dep, s2, d2]; exact ⟨rfl, rfl⟩⟩
      · have d2 := aT hn2 (m := 2 * 10 ^ 60 - 1) (by simp) (by simp)
        have s2 : sml 2 = true := by decide
        have s10 : sml 10 = true := by decide
        simp at d2
        exact ⟨_, _, by simp [eK, a8, runB, d1, e0, e1, e2, peq, dep, s2, s10, d2]; exact ⟨rfl, rfl⟩⟩
structure WS (n : Nat) (R : Nat → List (Nat × Int)) (h : Hd) : Prop where
  hd0 : ∃ x, h[0]? = some (.lst [.int x])
  st : ∀ i, i < n → ∃ y, h[1 + i]? = some (.lst [.int y])
  sts : h[n + 1]? = some (.lst ((List.range n).map fun i => .ref (1 + i)))
  ti : ∀ i, i < n → h[n + 2 + i]? = some (.lst ((R i).map cr))
  tis : h[2 * n + 2]? = some (.lst ((List.range n).map fun i => .ref (n + 2 + i)))
theorem WS.setSt {n : Nat} {R : Nat → List (Nat × Int)} {h : Hd} (w : WS n R h) {i : Nat} (hi : i < n) (y : Int) : WS n R (h.set (1 + i) (.lst [.int y])) where
  hd0 := by obtain ⟨x, e⟩ := w.hd0; exact ⟨x, by rw [List.getElem?_set_ne (by omega)]; exact e⟩
  st := fun j hj => by
    obtain ⟨z, e⟩ := w.st j hj
    by_cases q : i = j
    · subst q
      have := (List.getElem?_eq_some_iff.mp e).1
      exact ⟨y, by rw [List.getElem?_set_self this]⟩
    · exact ⟨z, by rw [List.getElem?_set_ne (by omega)]; exact e⟩
  sts := by rw [List.getElem?_set_ne (by omega)]; exact w.sts
  ti := fun j hj => by rw [List.getElem?_set_ne (by omega)]; exact w.ti j hj
  tis := by rw [List.getElem?_set_ne (by omega)]; exact w.tis
def cX (R : Nat → List (Nat × Int)) (k : Nat) (p : Nat × Int) : Nat → List (Nat × Int) := fun i => if i = k then R i ++ [p] else R i
theorem WS.app {n : Nat} {R : Nat → List (Nat × Int)} {h : Hd} (w : WS n R h) {i : Nat} (hi : i < n) (p : Nat × Int) : WS n (cX R i p) (h.set (n + 2 + i) (.lst ((R i).map cr ++ [cr p]))) where
  hd0 := by obtain ⟨x, e⟩ := w.hd0; exact ⟨x, by rw [List.getElem?_set_ne (by omega)]; exact e⟩
  st := fun j hj => by obtain ⟨z, e⟩ := w.st j hj; exact ⟨z, by rw [List.getElem?_set_ne (by omega)]; exact e⟩
  sts := by rw [List.getElem?_set_ne (by omega)]; exact w.sts
  ti := fun j hj => by
    by_cases q : i = j
    · subst q
      have := (List.getElem?_eq_some_iff.mp (w.ti i hj)).1
      rw [List.getElem?_set_self this]
      simp [cX]
    · rw [List.getElem?_set_ne (by omega), w.ti j hj, cX, if_neg (by omega)]
  tis := by rw [List.getElem?_set_ne (by omega)]; exact w.tis
theorem WS.more {n : Nat} {R : Nat → List (Nat × Int)} {h : Hd} (w : WS n R h) (c : Hd) : WS n R (h ++ c) := by
  have k : ∀ {i : Nat} {x : bL}, h[i]? = some x → (h ++ c)[i]? = some x := fun {i x} e => by
    rw [List.getElem?_append_left (List.getElem?_eq_some_iff.mp e).1]; exact e
  exact ⟨let ⟨x, e⟩ := w.hd0; ⟨x, k e⟩, fun i hi => let ⟨x, e⟩ := w.st i hi; ⟨x, k e⟩, k w.sts, fun i hi => k (w.ti i hi), k w.tis⟩
structure eh (n : Nat) (c : Nat) (R : Nat → List (Nat × Int)) : Prop where
  ris : ∀ i, (R i).Pairwise fun p q => p.1 < q.1
  lt : ∀ i p, p ∈ R i → p.1 < n
  wt : ∀ i p, p ∈ R i → 1 ≤ p.2 ∧ p.2 ≤ 400
  len : ∀ i, (R i).length ≤ c
  sym : ∀ f s, S2 R f s n = S2 R s f n
  ns : ∀ i p, p ∈ R i → p.1 ≠ i
theorem iu (R : Nat → List (Nat × Int)) (f s : Nat → Int) (k : Nat) (p : Nat × Int) : ∀ n, S2 (cX R k p) f s n = S2 R f s n + (if k < n then p.2 * f p.1 * s k else 0)
  | 0 => by simp [S2]
  | n + 1 => by
    rw [S2, S2, iu R f s k p n]
    by_cases e : n = k
    · subst e
      simp [cX]; omega
    · rw [cX, if_neg e]
      by_cases l : k < n
      · have : k < n + 1 := by omega
        simp [l, this]; omega
      · have : ¬ k < n + 1 := by omega
        simp [l, this]
theorem dz {R : Nat → List (Nat × Int)} {k i : Nat} {q p : Nat × Int} (h : p ∈ cX R k q i) : p ∈ R i ∨ p = q := by
  unfold cX at h
  split at h
  · simpa using h
  · exact .inl h
theorem wv {R : Nat → List (Nat × Int)} {k : Nat} {q : Nat × Int} (h : ∀ i, (R i).Pairwise fun p q => p.1 < q.1) (hq : ∀ p ∈ R k, p.1 < q.1) (i : Nat) : (cX R k q i).Pairwise fun p q => p.1 < q.1 := by
  unfold cX
  split
  · rename_i e
    rw [List.pairwise_append]
    exact ⟨h i, by simp, fun a ha b hb => by simp at hb; subst hb; exact hq a (by rw [← e]; exact ha)⟩
  · exact h i
theorem eh.put {n c : Nat} {R : Nat → List (Nat × Int)} (o : eh n c R) {k j : Nat} (hk : k < n) (hj : j < n) (hjk : j ≠ k) (b1 : ∀ p ∈ R k, p.1 < j) (b2 : ∀ p ∈ R j, p.1 < k) {v : Int} (h1 : 1 ≤ v) (h2 : v ≤ 400) : eh n (c + 2) (cX (cX R k (j, v)) j (k, v)) where
  ris := wv (wv o.ris b1) fun p hp => by
    rw [cX, if_neg hjk] at hp
    exact b2 p hp
  lt := fun i p hp => by
    rcases dz hp with hp | rfl
    · rcases dz hp with hp | rfl
      · exact o.lt _ _ hp
      · exact hj
    · exact hk
  wt := fun i p hp => by
    rcases dz hp with hp | rfl
    · rcases dz hp with hp | rfl
      · exact o.wt _ _ hp
      · exact ⟨h1, h2⟩
    · exact ⟨h1, h2⟩
  len := fun i => by
    have := o.len i
    simp only [cX]
    split <;> split <;> simp <;> omega
  sym := fun f s => by
    rw [iu, iu, iu, iu, o.sym f s]
    simp only [hk, hj, if_true]
    have e1 : v * f j * s k = v * s k * f j := by rw [Int.mul_assoc, Int.mul_assoc, Int.mul_comm (f j)]
    have e2 : v * f k * s j = v * s j * f k := by rw [Int.mul_assoc, Int.mul_assoc, Int.mul_comm (f k)]
    rw [e1, e2]; omega
  ns := fun i p hp => by
    unfold cX at hp
    by_cases a : i = j
    · rw [if_pos a] at hp
      rcases List.mem_append.mp hp with hp | hp
      · rw [if_neg (by omega)] at hp; exact o.ns _ _ hp
      · simp at hp; subst hp; simp; omega
    · rw [if_neg a] at hp
      by_cases b : i = k
      · rw [if_pos b] at hp
        rcases List.mem_append.mp hp with hp | hp
        · exact o.ns _ _ hp
        · simp at hp; subst hp; simp; omega
      · rw [if_neg b] at hp; exact o.ns _ _ hp
theorem e8 {a n i : Nat} (h : i < n) : atI ((List.range n).map fun i => D.ref (a + i)) (i : Int) = some (.ref (a + i)) := by
  refine da ?_
  simp [h]
structure Mid (k j : Nat) (R : Nat → List (Nat × Int)) : Prop where
  a : ∀ i, k < i → R i = []
  b : ∀ p ∈ R k, p.1 < j
  c : ∀ i, i < j → ∀ p ∈ R i, p.1 ≤ k
  d : ∀ i, j ≤ i → i < k → ∀ p ∈ R i, p.1 < k
theorem Mid.skip {k j : Nat} {R : Nat → List (Nat × Int)} (m : Mid k j R) (hj : j < k) : Mid k (j + 1) R :=
  ⟨m.a, fun p hp => Nat.lt_succ_of_lt (m.b p hp), fun i hi p hp => by
    by_cases e : i < j
    · exact m.c i e p hp
    · exact Nat.le_of_lt (m.d i (by omega) (by omega) p hp), fun i h1 h2 => m.d i (by omega) h2⟩
theorem Mid.put {k j : Nat} {R : Nat → List (Nat × Int)} (m : Mid k j R) (hj : j < k) (v : Int) : Mid k (j + 1) (cX (cX R k (j, v)) j (k, v)) where
  a := fun i hi => by rw [cX, if_neg (by omega), cX, if_neg (by omega)]; exact m.a i hi
  b := fun p hp => by
    rw [cX, if_neg (by omega)] at hp
    rcases dz hp with hp | rfl
    · exact Nat.lt_succ_of_lt (m.b p hp)
    · exact Nat.lt_succ_self _
  c := fun i hi p hp => by
    rcases dz hp with hp | rfl
    · rw [cX, if_neg (by omega)] at hp
      by_cases e : i < j
      · exact m.c i e p hp
      · exact Nat.le_of_lt (m.d i (by omega) (by omega) p hp)
    · exact Nat.le_refl _
  d := fun i h1 h2 p hp => by
    rw [cX, if_neg (by omega), cX, if_neg (by omega)] at hp
    exact m.d i (by omega) h2 p hp
theorem EB {n k : Nat} {lit : D} {sort : Int} (hk : k < n) (hn : n ≤ 30) {R : Nat → List (Nat × Int)} {h : Hd} {c L : Nat} (hc : c + 2 * k ≤ 100000) (w : WS n R h) (o : eh n c R) (mm : Mid k 0 R) (hL : h.length = L) {a b : Option D} :
    ∃ a' b' R' h', cV none ((List.range k).map fun k : Nat => D.int k) (gN 7) i6 ((List.range k).map fun k : Nat => D.int k)
      [some lit, some (.ref 0), some (.int n), some (.ref (n + 1)), some (.ref (2 * n + 2)), some (.int k), some (.int sort), a, b, none, none, none] h
      = .nx [some lit, some (.ref 0), some (.int n), some (.ref (n + 1)), some (.ref (2 * n + 2)), some (.int k), some (.int sort), a', b', none, none, none] h' ∧ WS n R' h' ∧ eh n (c + 2 * k) R' ∧ Mid k k R' ∧ h'.length = L := by
  obtain ⟨σ', h', h1, R', a', b', h2, h3, h4, hm, h5⟩ := cg (P := fun i σ h => ∃ R a b, σ = [some lit, some (.ref 0), some (.int n), some (.ref (n + 1)), some (.ref (2 * n + 2)), some (.int k), some (.int sort), a, b, none, none, none] ∧ WS n R h ∧ eh n (c + 2 * i) R ∧ Mid k i R ∧ h.length = L)
    (g := none) (k := 0) (all := (List.range k).map fun k : Nat => D.int k) (fun _ _ _ _ => trivial) (xs := (List.range k).map fun k : Nat => D.int k) (tg := gN 7) (b := i6)
    (σ := [some lit, some (.ref 0), some (.int n), some (.ref (n + 1)), some (.ref (2 * n + 2)), some (.int k), some (.int sort), a, b, none, none, none]) (h := h) (by
      rintro i x σ h0 hx ⟨R, a, b, rfl, w, o, mm, hL⟩
      obtain ⟨hi, rfl⟩ := cM hx
      rw [Nat.zero_add] at o mm ⊢
      obtain ⟨y, ey⟩ := w.st k hk
      obtain ⟨v, y', ev, v0, v1⟩ := Ce (s := sort) ey
      have w1 := w.setSt hk y'
      have hkn := hk
      have r1 := e8 (a := 1) hk
      have r2 := e8 (a := n + 2) hk
      have hin : i < n := by omega
      have r3 := e8 (a := n + 2) hin
      refine ⟨_, rfl, ?_⟩
      by_cases e : 0 < v
      · have len1 := o.len k
        have len2 := o.len i
        have t1 := w1.ti k hk
        have w2 := w1.app hk (i, v)
        have o2 := o.put hk hin (by omega) mm.b (mm.d i (Nat.le_refl _) hi) (show 1 ≤ v by omega) v1
        have t2 := w2.ti i hin
        have w3 := w2.app hin (k, v)
        have l1 : ((R k).map cr).length < 1000000 := by simp; omega
        have l2 : (((cX R k (i, v)) i).map cr).length < 1000000 := by
          simp only [cX]; split <;> simp <;> omega
        simp only [cr] at t1 t2 l1 l2
        refine ⟨[some lit, some (.ref 0), some (.int n), some (.ref (n + 1)), some (.ref (2 * n + 2)), some (.int k), some (.int sort), some (.int i), some (.int v), none, none, none], _, ?_, _, _, _, rfl, w3, by rw [show c + 2 * (i + 1) = c + 2 * i + 2 by omega]; exact o2, mm.put hi v, ?_⟩
        · have s1 := w.sts
          have s2 := w1.tis
          have s3 := w2.tis
          simp only [cr] at s3
          simp [-List.length_map, SZ, i6, s1, r1, ev, e, s2, r2, t1, l1, s3, r3, t2, l2, cr]
        · simp [hL]
      · refine ⟨[some lit, some (.ref 0), some (.int n), some (.ref (n + 1)), some (.ref (2 * n + 2)), some (.int k), some (.int sort), some (.int i), some (.int v), none, none, none], _, ?_, R, _, _, rfl, w1, ⟨o.ris, o.lt, o.wt, fun j => by have := o.len j; omega, o.sym, o.ns⟩, mm.skip hi, by simp [hL]⟩
        simp [i6, w.sts, r1, ev, e]) ⟨R, a, b, rfl, w, o, mm, hL⟩
  refine ⟨a', b', R', h', ?_, h3, ?_, ?_, h5⟩
  · rw [h1, h2]
  · simpa using h4
  · simpa using hm
theorem eh.le {n c d : Nat} {R : Nat → List (Nat × Int)} (o : eh n c R) (h : c ≤ d) : eh n d R := ⟨o.ris, o.lt, o.wt, fun j => Nat.le_trans (o.len j) h, o.sym, o.ns⟩
theorem EC {n : Nat} {lit : D} (hn : n ≤ 30) {R : Nat → List (Nat × Int)} {h : Hd} {L : Nat} (w : WS n R h) (o : eh n 0 R) (mm : ∀ i, R i = []) (hL : h.length = L) :
    ∃ a b c d R' h', cV none ((List.range n).map fun k : Nat => D.int k) (gN 5) kI ((List.range n).map fun k : Nat => D.int k)
      [some lit, some (.ref 0), some (.int n), some (.ref (n + 1)), some (.ref (2 * n + 2)), none, none, none, none, none, none, none] h
      = .nx [some lit, some (.ref 0), some (.int n), some (.ref (n + 1)), some (.ref (2 * n + 2)), a, b, c, d, none, none, none] h' ∧ WS n R' h' ∧ eh n (60 * n) R' ∧ h'.length = L := by
  obtain ⟨σ', h', h1, R', a, b, c, d, h2, h3, h4, -, h5⟩ := cg (P := fun i σ h => ∃ R a b c d, σ = [some lit, some (.ref 0), some (.int n), some (.ref (n + 1)), some (.ref (2 * n + 2)), a, b, c, d, none, none, none] ∧ WS n R h ∧ eh n (60 * i) R ∧ Mid i 0 R ∧ h.length = L)
    (g := none) (k := 0) (all := (List.range n).map fun k : Nat => D.int k) (fun _ _ _ _ => trivial) (xs := (List.range n).map fun k : Nat => D.int k) (tg := gN 5) (b := kI)
    (σ := [some lit, some (.ref 0), some (.int n), some (.ref (n + 1)), some (.ref (2 * n + 2)), none, none, none, none, none, none, none]) (h := h) (by
      rintro i x σ h0 hx ⟨R, a, b, c, d, rfl, w, o, mm, hL⟩
      obtain ⟨hi, rfl⟩ := cM hx
      rw [Nat.zero_add] at o mm ⊢
      obtain ⟨y, ey⟩ := w.st i hi
      have e1 := aT ey (show (0 : Int) < 3 by omega) (by simp)
      have w1 := w.setSt hi (y / 3)
      have r1 := e8 (a := 1) hi
      obtain ⟨a', b', R', h', q1, q2, q3, qm, q4⟩ := EB (lit := lit) (sort := y % 3) hi hn (c := 60 * i) (by omega) w1 o mm (L := L) (by simpa using hL) (a := c) (b := d)
      have qm' : Mid (i + 1) 0 R' := by
        refine ⟨fun j hj => qm.a j (by omega), fun p hp => ?_, fun j hj => by omega, fun j _ hj p hp => ?_⟩
        · rw [qm.a (i + 1) (by omega)] at hp; cases hp
        · by_cases e : j < i
          · have := qm.c j e p hp; omega
          · have : j = i := by omega
            subst this
            have := qm.b p hp; omega
      refine ⟨_, rfl, [some lit, some (.ref 0), some (.int n), some (.ref (n + 1)), some (.ref (2 * n + 2)), some (.int i), some (.int (y % 3)), a', b', none, none, none], h', ?_, R', _, _, _, _, rfl, q2, q3.le (by omega), qm', q4⟩
      have z1 : -1000000 ≤ (i : Int) := by omega
      have z2 : (i : Int) ≤ 1000000 := by omega
      simp [kI, w.sts, r1, e1, z1, z2, q1]) ⟨R, _, _, _, _, rfl, w, o, ⟨fun i _ => mm i, fun p hp => (by rw [mm] at hp; cases hp), fun i hi => (by omega), fun i _ hi => (by omega)⟩, hL⟩
  refine ⟨a, b, c, d, R', h', ?_, h3, ?_, h5⟩
  · rw [h1, h2]
  · simpa using h4
theorem Iw (l : List (Nat × Int)) (h : ∀ p ∈ l, 1 ≤ p.2 ∧ p.2 ≤ 400) : 0 ≤ (l.map (·.2)).sum ∧ (l.map (·.2)).sum ≤ 400 * l.length := by
  induction l with
  | nil => simp
  | cons p l ih =>
    have h1 := h p (by simp)
    have h2 := ih fun q hq => h q (by simp [hq])
    simp
    omega
def free (ss : List (Option Int)) : Nat := ss.countP fun x => x.isNone
structure WB (n : Nat) (R : Nat → List (Nat × Int)) (i : Nat) (bs : List Int) (ss : List (Option Int)) (h : Hd) : Prop where
  w : WS n R h
  hb : h[2 * n + 3]? = some (.lst (bs.map .int))
  hs : h[2 * n + 4]? = some (.lst (ss.map bF))
  lb : bs.length = i
  ls : ss.length = i
  os : ∀ x ∈ ss, x = none ∨ x = some 0 ∨ x = some 1
  fr : free ss ≤ 8
theorem yK (ss : List (Option Int)) : (ss.map bF).countP (fun z => eqF z .non) = free ss := by
  rw [List.countP_map, free]
  congr 1
  funext x
  cases x <;> rfl
theorem Cg (ss : List (Option Int)) : (ss.map bF).all cy = true := by
  rw [List.all_map, List.all_eq_true]
  intro x _
  cases x <;> rfl
theorem sE {σ : Sd} {h : Hd} {k m : Nat} {ss : List (Option Int)} (e : σ[m]? = some (some (.ref k))) (hk : h[k]? = some (.lst (ss.map bF))) : jU (aa m) (fC .non) σ h = .ok (.int (free ss)) h := by
  have e1 : aa m σ h = .ok (.ref k) h := by simp [aa, slot, e]
  have e2 : bP h (.ref k) = some (ss.map bF) := by simp [bP, hk]
  have e3 : (cy .non && (ss.map bF).all cy) = true := by rw [Cg]; rfl
  show ((aa m) σ h).bind _ = _
  rw [e1]
  show (match bP h (.ref k) with | some _ => _ | none => _) = _
  rw [e2]
  show (match bP h (.ref k) with | some _ => _ | none => _) = _
  rw [e2]
  show (if (cy .non && (ss.map bF).all cy) = true then _ else _) = _
  rw [if_pos e3, yK]
theorem Gg {n : Nat} {lit : D} (hn : n ≤ 30) {R : Nat → List (Nat × Int)} (o : eh n 1800 R) {h : Hd} {a b c d e : Option D} (w : WB n R 0 [] [] h) :
    ∃ a' b' c' d' e' bs ss h', cV none ((List.range n).map fun k : Nat => D.int k) (gN 5) kH ((List.range n).map fun k : Nat => D.int k)
      [some lit, some (.ref 0), some (.int n), some (.ref (n + 1)), some (.ref (2 * n + 2)), a, b, c, d, some (.ref (2 * n + 3)), some (.ref (2 * n + 4)), e] h
      = .nx [some lit, some (.ref 0), some (.int n), some (.ref (n + 1)), some (.ref (2 * n + 2)), a', b', c', d', some (.ref (2 * n + 3)), some (.ref (2 * n + 4)), e'] h' ∧ WB n R n bs ss h' := by
  obtain ⟨σ', h', h1, bs, ss, a', b', c', d', e', h2, h3⟩ := cg (P := fun i σ h => ∃ bs ss a b c d e, σ = [some lit, some (.ref 0), some (.int n), some (.ref (n + 1)), some (.ref (2 * n + 2)), a, b, c, d, some (.ref (2 * n + 3)), some (.ref (2 * n + 4)), e] ∧ WB n R i bs ss h)
    (g := none) (k := 0) (all := (List.range n).map fun k : Nat => D.int k) (fun _ _ _ _ => trivial) (xs := (List.range n).map fun k : Nat => D.int k) (tg := gN 5) (b := kH)
    (σ := [some lit, some (.ref 0), some (.int n), some (.ref (n + 1)), some (.ref (2 * n + 2)), a, b, c, d, some (.ref (2 * n + 3)), some (.ref (2 * n + 4)), e]) (h := h) (by
      rintro i x σ h0 hx ⟨bs, ss, a, b, c, d, e, rfl, B⟩
      obtain ⟨hi, rfl⟩ := cM hx
      rw [Nat.zero_add] at B ⊢
      have w := B.w
      obtain ⟨y, ey⟩ := w.st i hi
      have r1 := e8 (a := 1) hi
      have r2 := e8 (a := n + 2) hi
      have ti := w.ti i hi
      have comp : cz (some (n + 2 + i)) ((R i).map cr) (gT [0, 1]) [] (aa 1) ((R i).map cr) [none, none] h0 = .ok (((R i).map (·.2)).map D.int) h0 := by
        have := bM (g := some (n + 2 + i)) (all := (R i).map cr) (tg := gT [0, 1]) (cs := []) (e := aa 1) (h := h0) (I := fun σ => ∃ a b, σ = [a, b]) (fun _ => true) (fun d => match d with | .tup [_, x] => x | _ => .non) ti (xs := (R i).map cr) (σ := [none, none]) (by
          rintro x hx σ ⟨a, b, rfl⟩
          obtain ⟨q, hq, rfl⟩ := List.mem_map.mp hx
          exact ⟨_, rfl, ⟨_, _, rfl⟩, rfl, fun _ => rfl⟩) ⟨_, _, rfl⟩
        rw [this, List.filter_eq_self.mpr (by simp), List.map_map, List.map_map]
        rfl
      have sl := Iw (R i) fun p hp => o.wt i p hp
      have ln := o.len i
      obtain ⟨v, y', e1⟩ := Iv (t := ((R i).map (·.2)).sum) ey sl.1 (by omega)
      have w1 := w.setSt hi y'
      have hb1 : (h0.set (1 + i) (.lst [.int y']))[2 * n + 3]? = some (.lst (bs.map .int)) := by rw [List.getElem?_set_ne (by omega)]; exact B.hb
      have lt3 := (List.getElem?_eq_some_iff.mp B.hb).1
      have lt4 := (List.getElem?_eq_some_iff.mp B.hs).1
      have lbz : bs.length < 1000000 := by have := B.lb; omega
      have lsz : ss.length < 1000000 := by have := B.ls; omega
      obtain ⟨h2, hh2⟩ : ∃ h2, h2 = (h0.set (1 + i) (.lst [.int y'])).set (2 * n + 3) (.lst (bs.map .int ++ [.int v])) := ⟨_, rfl⟩
      have g2 : ∀ {j : Nat}, j ≠ 2 * n + 3 → h2[j]? = (h0.set (1 + i) (.lst [.int y']))[j]? := fun {j} hj => by rw [hh2, List.getElem?_set_ne (by omega)]
      have w2 : WS n R h2 := by
        refine ⟨?_, fun j hj => ?_, ?_, fun j hj => ?_, ?_⟩
        · obtain ⟨x, e⟩ := w1.hd0; exact ⟨x, by rw [g2 (by omega)]; exact e⟩
        · obtain ⟨x, e⟩ := w1.st j hj; exact ⟨x, by rw [g2 (by omega)]; exact e⟩
        · rw [g2 (by omega)]; exact w1.sts
        · rw [g2 (by omega)]; exact w1.ti j hj
        · rw [g2 (by omega)]; exact w1.tis
      obtain ⟨z, ez⟩ := w2.st i hi
      have e2 := aT ez (show (0 : Int) < 7 by omega) (by simp)
      obtain ⟨u, hu, q⟩ := pick bF [none, none, none, none, none, some 0, some 1] z 7 rfl (by omega)
      have q : atI [D.non, .non, .non, .non, .non, .int 0, .int 1] (z % 7) = some (bF u) := q
      have w3 := w2.setSt hi (z / 7)
      obtain ⟨h3, hh3⟩ : ∃ h3, h3 = h2.set (1 + i) (.lst [.int (z / 7)]) := ⟨_, rfl⟩
      rw [← hh3] at w3 e2
      have hs3 : h3[2 * n + 4]? = some (.lst (ss.map bF)) := by
        rw [hh3, List.getElem?_set_ne (by omega), g2 (by omega), List.getElem?_set_ne (by omega)]; exact B.hs
      have hb3 : h3[2 * n + 3]? = some (.lst ((bs ++ [v]).map .int)) := by
        rw [hh3, List.getElem?_set_ne (by omega), hh2, List.getElem?_set_self (by simpa using lt3)]; simp
      obtain ⟨z', ez'⟩ := w3.st i hi
      have e3 := aT ez' (show (0 : Int) < 2 by omega) (by simp)
      have st1 : gX (m5 (aa 9) (aw eK (af (fAt (aa 3) (aa 5)) (af (kr (bO 2 [] (db (fAt (aa 4) (aa 5))) (gT [0, 1]) [] (aa 1))) av))))
          [some lit, some (.ref 0), some (.int n), some (.ref (n + 1)), some (.ref (2 * n + 2)), some (.int i), b, c, d, some (.ref (2 * n + 3)), some (.ref (2 * n + 4)), e] h0
          = .nx [some lit, some (.ref 0), some (.int n), some (.ref (n + 1)), some (.ref (2 * n + 2)), some (.int i), b, c, d, some (.ref (2 * n + 3)), some (.ref (2 * n + 4)), e] h2 := by
        rw [hh2]
        simp [SZ, w.sts, w.tis, r1, r2, ti, comp, jt, e1, hb1, lbz, B.hb, -List.map_map]
      have st2 : aH (gN 11) (fIx (af (fC .non) (af (fC .non) (af (fC .non) (af (fC .non) (af (fC .non) (af (fC (.int 0)) (af (fC (.int 1)) av))))))) (aw ar (af (fAt (aa 3) (aa 5)) (af (fC (.int 7)) av))))
          [some lit, some (.ref 0), some (.int n), some (.ref (n + 1)), some (.ref (2 * n + 2)), some (.int i), b, c, d, some (.ref (2 * n + 3)), some (.ref (2 * n + 4)), e] h2
          = .nx [some lit, some (.ref 0), some (.int n), some (.ref (n + 1)), some (.ref (2 * n + 2)), some (.int i), b, c, d, some (.ref (2 * n + 3)), some (.ref (2 * n + 4)), some (bF u)] h3 := by
        simp [w2.sts, r1, e2, q]
      have st3 : ∃ (u' : Option Int) (h4 : Hd), (sIf (jR (tE (ao mY (aa 11) (fC .non))) (tE (ao oGt (jU (aa 10) (fC .non)) (fC (.int 7))))) (aH (gN 11) (aw ar (af (fAt (aa 3) (aa 5)) (af (fC (.int 2)) av)))) bS)
          [some lit, some (.ref 0), some (.int n), some (.ref (n + 1)), some (.ref (2 * n + 2)), some (.int i), b, c, d, some (.ref (2 * n + 3)), some (.ref (2 * n + 4)), some (bF u)] h3
          = .nx [some lit, some (.ref 0), some (.int n), some (.ref (n + 1)), some (.ref (2 * n + 2)), some (.int i), b, c, d, some (.ref (2 * n + 3)), some (.ref (2 * n + 4)), some (bF u')] h4
          ∧ (u' = none ∨ u' = some 0 ∨ u' = some 1) ∧ free (ss ++ [u']) ≤ 8 ∧ ∃ z', h4 = h3.set (1 + i) (.lst [.int z']) := by
        have self : ∃ z', h3 = h3.set (1 + i) (.lst [.int z']) := by
          refine ⟨z', ?_⟩
          apply List.ext_getElem?
          intro j
          by_cases ij : 1 + i = j
          · subst ij; rw [List.getElem?_set_self (List.getElem?_eq_some_iff.mp ez').1]; exact ez'
          · rw [List.getElem?_set_ne ij]
        have hu' : u = none ∨ u = some 0 ∨ u = some 1 := by simpa using hu
        cases u with
        | some k => exact ⟨some k, h3, by simp [bF], hu', by have := B.fr; simpa [free] using this, self⟩
        | none =>
          by_cases c7 : 7 < free ss
          · have c7' : (7 : Int) < (free ss : Int) := by omega
            have b0 := Int.emod_nonneg z' (show (2 : Int) ≠ 0 by omega)
            have b1 := Int.emod_lt_of_pos z' (show (0 : Int) < 2 by omega)
            refine ⟨some (z' % 2), h3.set (1 + i) (.lst [.int (z' / 2)]), ?_, ?_, by have := B.fr; simpa [free] using this, _, rfl⟩
            · have fc := sE (m := 10) (σ := [some lit, some (.ref 0), some (.int n), some (.ref (n + 1)), some (.ref (2 * n + 2)), some (.int i), b, c, d, some (.ref (2 * n + 3)), some (.ref (2 * n + 4)), some .non]) rfl hs3
              simp [-jU, bF, fc, c7', w3.sts, r1, e3]
            · by_cases zz : z' % 2 = 0
              · rw [zz]; simp
              · have : z' % 2 = 1 := by omega
                rw [this]; simp
          · have c7' : ¬ (7 : Int) < (free ss : Int) := by omega
            refine ⟨none, h3, ?_, .inl rfl, by simp only [free] at c7 ⊢; simp; omega, self⟩
            have fc := sE (m := 10) (σ := [some lit, some (.ref 0), some (.int n), some (.ref (n + 1)), some (.ref (2 * n + 2)), some (.int i), b, c, d, some (.ref (2 * n + 3)), some (.ref (2 * n + 4)), some .non]) rfl hs3
            simp [-jU, bF, fc, c7']
      obtain ⟨u', h4, st3, ou, fu, z4, hh4⟩ := st3
      have w4 := w3.setSt hi z4
      rw [← hh4] at w4
      have hs4 : h4[2 * n + 4]? = some (.lst (ss.map bF)) := by rw [hh4, List.getElem?_set_ne (by omega)]; exact hs3
      have hb4 : h4[2 * n + 3]? = some (.lst ((bs ++ [v]).map .int)) := by rw [hh4, List.getElem?_set_ne (by omega)]; exact hb3
      have lt5 := (List.getElem?_eq_some_iff.mp hs4).1
      have st4 : gX (m5 (aa 10) (aa 11)) [some lit, some (.ref 0), some (.int n), some (.ref (n + 1)), some (.ref (2 * n + 2)), some (.int i), b, c, d, some (.ref (2 * n + 3)), some (.ref (2 * n + 4)), some (bF u')] h4
          = .nx [some lit, some (.ref 0), some (.int n), some (.ref (n + 1)), some (.ref (2 * n + 2)), some (.int i), b, c, d, some (.ref (2 * n + 3)), some (.ref (2 * n + 4)), some (bF u')] (h4.set (2 * n + 4) (.lst (ss.map bF ++ [bF u']))) := by
        simp [SZ, hs4, lsz]
      refine ⟨_, rfl, [some lit, some (.ref 0), some (.int n), some (.ref (n + 1)), some (.ref (2 * n + 2)), some (.int i), b, c, d, some (.ref (2 * n + 3)), some (.ref (2 * n + 4)), some (bF u')], h4.set (2 * n + 4) (.lst (ss.map bF ++ [bF u'])), ?_, bs ++ [v], ss ++ [u'], _, _, _, _, _, rfl, ?_⟩
      · unfold kH
        show aC _ _ [some lit, some (.ref 0), some (.int n), some (.ref (n + 1)), some (.ref (2 * n + 2)), some (.int i), b, c, d, some (.ref (2 * n + 3)), some (.ref (2 * n + 4)), e] h0 = _
        rw [bA st1, bA st2, bA st3, st4]
      · refine ⟨⟨?_, fun j hj => ?_, ?_, fun j hj => ?_, ?_⟩, ?_, ?_, by simp [B.lb], by simp [B.ls], fun x hx => ?_, fu⟩
        · obtain ⟨x, e⟩ := w4.hd0; exact ⟨x, by rw [List.getElem?_set_ne (by omega)]; exact e⟩
        · obtain ⟨x, e⟩ := w4.st j hj; exact ⟨x, by rw [List.getElem?_set_ne (by omega)]; exact e⟩
        · rw [List.getElem?_set_ne (by omega)]; exact w4.sts
        · rw [List.getElem?_set_ne (by omega)]; exact w4.ti j hj
        · rw [List.getElem?_set_ne (by omega)]; exact w4.tis
        · rw [List.getElem?_set_ne (by omega)]; exact hb4
        · rw [List.getElem?_set_self lt5]; simp
        · rcases List.mem_append.mp hx with hx | hx
          · exact B.os x hx
          · simp at hx; subst hx; exact ou) ⟨[], [], _, _, _, _, _, rfl, w⟩
  refine ⟨a', b', c', d', e', bs, ss, h', ?_, ?_⟩
  · rw [h1, h2]
  · simpa using h3
def toL (p : Nat × Int) : List Int := [(p.1 : Int), p.2]
theorem ww (r : List (Nat × Int)) : mZ (r.map cr) = some (r.map toL) := by
  induction r with
  | nil => rfl
  | cons p r ih => simp [mZ, cr, gq, ih, toL]
theorem ED : ∀ {r : List (Nat × Int)}, (r.Pairwise fun p q => p.1 < q.1) → tM (r.map toL) = true
  | [], _ => rfl
  | [_], _ => rfl
  | p :: q :: r, h => by
    have h1 : p.1 < q.1 := (List.pairwise_cons.mp h).1 q (by simp)
    have h2 := ED (List.pairwise_cons.mp h).2
    have e : ¬ (q.1 : Int) = p.1 := by omega
    have e' : ¬ (q.1 : Int) < p.1 := by omega
    simp only [List.map_cons] at h2 ⊢
    simp [tM, h2]
    simp [toL, bN, e, e']
theorem By {n : Nat} : ∀ {r : List (Nat × Int)} {m : Nat}, (r.Pairwise fun p q => p.1 < q.1) → (∀ p ∈ r, m ≤ p.1 ∧ p.1 < n) → r.length + m ≤ max n m
  | [], m, _, _ => by simp; omega
  | p :: r, m, h, b => by
    have hp := b p (by simp)
    have := By (m := p.1 + 1) (List.pairwise_cons.mp h).2 fun q hq => ⟨(List.pairwise_cons.mp h).1 q hq, (b q (by simp [hq])).2⟩
    simp; omega
theorem Gh {n : Nat} (hn : n ≤ 30) {r : List (Nat × Int)} (h : r.Pairwise fun p q => p.1 < q.1) (b : ∀ p ∈ r, p.1 < n) : r.length < 64 ∧ tM (r.map toL) = true ∧ (r.map toL).all (fun x => !x.isEmpty) = true := by
  have := By (m := 0) h fun p hp => ⟨Nat.zero_le _, b p hp⟩
  refine ⟨by omega, ED h, ?_⟩
  rw [List.all_map, List.all_eq_true]
  intro p _
  rfl
structure Ix (ns : List Int) (n : Nat) (w : Web) (h : Hd) : Prop where
  run : jv [.lit (ns.map .int)] [] = .ok (.tup [w.enc, .ref (n + 1), .ref 0]) h
  n1 : 1 ≤ n
  n30 : n ≤ 30
  ok : w.Ok n
  st : ∀ x ∈ w.stays, x = none ∨ x = some 0 ∨ x = some 1
  hd0 : ∃ x, h[0]? = some (.lst [.int x])
  hst : ∀ i, i < n → ∃ y, h[1 + i]? = some (.lst [.int y])
  sts : h[n + 1]? = some (.lst ((List.range n).map fun i => .ref (1 + i)))
  sym : ∀ f s, S2 (fun i => w.ties.getD i []) f s n = S2 (fun i => w.ties.getD i []) s f n
  wt : ∀ r ∈ w.ties, ∀ p ∈ r, 1 ≤ p.2 ∧ p.2 ≤ 400
  fr : free w.stays ≤ 8
  ns : ∀ i p, p ∈ w.ties.getD i [] → p.1 ≠ i
theorem wx {R R' : Nat → List (Nat × Int)} (f s : Nat → Int) : ∀ n, (∀ i, i < n → R i = R' i) → S2 R f s n = S2 R' f s n
  | 0, _ => rfl
  | n + 1, h => by rw [S2, S2, wx f s n fun i hi => h i (by omega), h n (by omega)]
theorem Iy (ns : List Int) : ∃ n w h, Ix ns n w h := by
  obtain ⟨v0, c0⟩ := Bx ns 0 (by omega) []
  have c0 : aY [.lit (ns.map .int), .int 0] [] = .ok (.int v0) [] := c0
  have hm : ∃ m : Int, 0 < m ∧ m ≤ 30 ∧ atI [D.int 7, .int 7, .int 12, .int 30] (v0 / 2 % 4) = some (.int m) := by
    obtain ⟨v, hv, q⟩ := pick D.int [7, 7, 12, 30] (v0 / 2) 4 rfl (by omega)
    simp at hv
    exact ⟨v, by omega, by omega, q⟩
  obtain ⟨m, m0, m1, em⟩ := hm
  have d1 := aT (h := [.lst [.int (v0 / 2)]]) (n := 0) (x := v0 / 2) rfl (show (0 : Int) < 4 by omega) (by simp)
  have d2 := aT (h := [.lst [.int (v0 / 2 / 4)]]) (n := 0) (x := v0 / 2 / 4) rfl m0 (by simp; omega)
  have b0 := Int.emod_nonneg (v0 / 2 / 4) (show m ≠ 0 by omega)
  have b1 := Int.emod_lt_of_pos (v0 / 2 / 4) m0
  obtain ⟨n, hn⟩ : ∃ n : Nat, (n : Int) = 1 + v0 / 2 / 4 % m := ⟨(1 + v0 / 2 / 4 % m).toNat, by omega⟩
  obtain ⟨x1, hx1⟩ : ∃ x1, x1 = v0 / 2 / 4 / m := ⟨_, rfl⟩
  have n1 : 1 ≤ n := by omega
  have n30 : n ≤ 30 := by omega
  obtain ⟨ds, h1, k1, l1, v1, σ1, q1, hh1, g0, g1⟩ := io (g := none) (all := (List.range n).map fun k : Nat => D.int k) (tg := gN 0) (xs := (List.range n).map fun k : Nat => D.int k) (k := 0)
    (e := bo (af (aw aY (af (aa 1) (af (ao cE (fC (.int 1)) (aa 0)) av))) av)) (σ := [none, some (.lit (ns.map .int))]) (h := [.lst [.int x1]])
    (P := fun i σ h => (∃ a, σ = [a, some (.lit (ns.map .int))]) ∧ h.length = 1 + i ∧ h[0]? = some (.lst [.int x1]) ∧ ∀ j, j < i → ∃ y, h[1 + j]? = some (.lst [.int y])) (V := fun i d => d = .ref (1 + i)) (fun _ _ _ _ => trivial) (by
      rintro i x σ h0 hx ⟨⟨a, rfl⟩, hl, e0, e1⟩
      obtain ⟨hi, rfl⟩ := cM hx
      rw [Nat.zero_add] at hl e1 ⊢
      obtain ⟨y, ey⟩ := Bx ns (1 + i) (by omega) h0
      have ey' : aY [.lit (ns.map .int), .int (1 + (i : Int))] h0 = .ok (.int y) h0 := by rw [← ey]; simp
      refine ⟨_, rfl, .ref h0.length, h0 ++ [.lst [.int y]], by simp [SZ, ey'], by rw [hl], ⟨_, rfl⟩, by simp [hl]; omega, ?_, fun j hj => ?_⟩
      · rw [List.getElem?_append_left (by omega)]; exact e0
      · by_cases hji : j < i
        · obtain ⟨z, ez⟩ := e1 j hji
          exact ⟨z, by rw [List.getElem?_append_left (by omega)]; exact ez⟩
        · have : j = i := by omega
          subst this
          exact ⟨y, by rw [List.getElem?_append_right (by omega)]; simp [hl]⟩) ⟨⟨_, rfl⟩, rfl, rfl, fun j hj => by omega⟩
  simp at l1 hh1 g1
  have e1 : ds = (List.range n).map fun i => .ref (1 + i) := j4 l1 fun i d hd => by simpa using v1 i d hd
  subst e1
  obtain ⟨ds, h2, k2, l2, v2, σ2, q2, hh2, g2, g3⟩ := io (g := none) (all := (List.range n).map fun k : Nat => D.int k) (tg := gN 0) (xs := (List.range n).map fun k : Nat => D.int k) (k := 0)
    (e := bo av) (σ := [none]) (h := h1 ++ [.lst ((List.range n).map fun i => .ref (1 + i))])
    (P := fun i σ h => (∃ a, σ = [a]) ∧ h.length = n + 2 + i ∧ (∀ j, j < n + 2 → h[j]? = (h1 ++ [.lst ((List.range n).map fun i => .ref (1 + i))])[j]?) ∧ ∀ j, j < i → h[n + 2 + j]? = some (.lst [])) (V := fun i d => d = .ref (n + 2 + i)) (fun _ _ _ _ => trivial) (by
      rintro i x σ h0 hx ⟨⟨a, rfl⟩, hl, e0, e1⟩
      obtain ⟨hi, rfl⟩ := cM hx
      rw [Nat.zero_add] at hl e1 ⊢
      refine ⟨_, rfl, .ref h0.length, h0 ++ [.lst []], by simp [SZ], by rw [hl], ⟨_, rfl⟩, by simp [hl]; omega, fun j hj => ?_, fun j hj => ?_⟩
      · rw [List.getElem?_append_left (by omega)]; exact e0 j hj
      · by_cases hji : j < i
        · rw [List.getElem?_append_left (by omega)]; exact e1 j hji
        · have : j = i := by omega
          subst this
          rw [List.getElem?_append_right (by omega)]; simp [hl]) ⟨⟨_, rfl⟩, by simp [hh1]; omega, fun j _ => rfl, fun j hj => by omega⟩
  simp at l2 hh2 g3
  have e2 : ds = (List.range n).map fun i => .ref (n + 2 + i) := j4 l2 fun i d hd => by simpa using v2 i d hd
  subst e2
  have W0 : WS n (fun _ => []) (h2 ++ [.lst ((List.range n).map fun i => .ref (n + 2 + i))]) := by
    have old : ∀ {j : Nat} {c : bL}, j < n + 1 → h1[j]? = some c → (h2 ++ [.lst ((List.range n).map fun i => .ref (n + 2 + i))])[j]? = some c := fun {j c} hj e => by
      rw [List.getElem?_append_left (by omega), g2 j (by omega), List.getElem?_append_left (by omega)]; exact e
    refine ⟨⟨x1, old (by omega) g0⟩, fun i hi => ?_, ?_, fun i hi => ?_, ?_⟩
    · obtain ⟨y, ey⟩ := g1 i hi
      exact ⟨y, old (by omega) ey⟩
    · rw [List.getElem?_append_left (by omega), g2 (n + 1) (by omega), List.getElem?_append_right (by omega), show n + 1 - h1.length = 0 by omega]; rfl
    · rw [List.getElem?_append_left (by omega), g3 i hi]; rfl
    · rw [List.getElem?_append_right (by omega), show 2 * n + 2 - h2.length = 0 by omega]; rfl
  have O0 : eh n 0 (fun _ => []) := ⟨by simp, by simp, by simp, by simp, fun f s => by
    have : ∀ f s k, S2 (fun _ => []) f s k = 0 := fun f s k => by induction k with
      | zero => rfl
      | succ k ih => simp [S2, ih]
    rw [this, this], by simp⟩
  obtain ⟨a, b, c, d, R, h3, k3, W3, O3, L3⟩ := EC (lit := .lit (ns.map .int)) n30 W0 O0 (fun _ => rfl) (L := 2 * n + 3) (by simp [hh2]; omega)
  have W4 : WB n R 0 [] [] (h3 ++ [.lst []] ++ [.lst []]) := ⟨(W3.more _).more _, by
      rw [List.getElem?_append_left (by simp [L3]), List.getElem?_append_right (by omega)]; simp [L3], by
      rw [List.getElem?_append_right (by simp [L3])]; simp [L3], rfl, rfl, by simp, by simp [free]⟩
  obtain ⟨a', b', c', d', e', bs, ss, h5, k5, W5⟩ := Gg (lit := .lit (ns.map .int)) n30 (O3.le (by omega)) (a := a) (b := b) (c := c) (d := d) (e := none) W4
  have comp : cz (some (2 * n + 2)) ((List.range n).map fun i => .ref (n + 2 + i)) (gN 0) [] (cK (lu (aa 0))) ((List.range n).map fun i => .ref (n + 2 + i)) [none] h5
      = .ok (((List.range n).map fun i => (R i)).map kD) h5 := by
    have := bM (g := some (2 * n + 2)) (all := (List.range n).map fun i => .ref (n + 2 + i)) (tg := gN 0) (cs := []) (e := cK (lu (aa 0))) (h := h5) (I := fun σ => ∃ a, σ = [a]) (fun _ => true)
      (fun d => match d with | .ref k => kD (R (k - (n + 2))) | _ => .non) W5.w.tis (xs := (List.range n).map fun i => .ref (n + 2 + i)) (σ := [none]) (by
        rintro x hx σ ⟨a, rfl⟩
        obtain ⟨i, hi, rfl⟩ := List.mem_map.mp hx
        have hi := List.mem_range.mp hi
        refine ⟨_, rfl, ⟨_, rfl⟩, rfl, fun _ => ?_⟩
        have t := W5.w.ti i hi
        have so := Gh n30 (O3.ris i) (O3.lt i)
        have so' : ((R i).map cr).length < 64 ∧ tM ((R i).map toL) = true ∧ ((R i).map toL).all (fun x => !x.isEmpty) = true := by rw [List.length_map]; exact so
        simp only [List.set_cons_zero, cK, lu, bP, ni, aa, slot, List.getElem?_cons_zero, aQ, t, ww, if_pos so', kD, Nat.add_sub_cancel_left]) ⟨_, rfl⟩
    rw [this, List.filter_eq_self.mpr (by simp), List.map_map, List.map_map]
    congr 1
    apply List.map_congr_left
    intro i _
    simp
  refine ⟨n, ⟨(List.range n).map fun i => (R i), bs, ss⟩, h5, ?_⟩
  refine ⟨?_, n1, n30, ⟨by simp, W5.lb, W5.ls, fun r hr p hp => ?_, by omega⟩, W5.os, W5.w.hd0, W5.w.st, W5.w.sts, fun f s => ?_, fun r hr p hp => ?_, W5.fr, fun i p hp => ?_⟩
  · have hn' : 1 + v0 / 2 / 4 % m = n := hn.symm
    have z1 : -1000000 ≤ (n : Int) := by omega
    have z2 : (n : Int) ≤ 1000000 := by omega
    have z3 : n ≤ 1000000 := by omega
    have l3 : n + 1 = h1.length := by omega
    have l4 : 2 * n + 2 = h2.length := by omega
    have l5 : 2 * n + 3 = h3.length := by omega
    have l6 : 2 * n + 4 = h3.length + 1 := by omega
    have hl1 : h1.length = n + 1 := by omega
    have hl2 : h2.length = 2 * n + 2 := by omega
    simp only [List.append_assoc, List.cons_append, List.nil_append] at k5
    have w9 := W5.hb
    have w10 := W5.hs
    have w11 := W5.w.tis
    simp [jv, a8, runB, c0, SZ, d1, em, d2, hn', z1, z2, ← hx1, k1, z3, hl1, k2, hl2, k3, L3, k5, w11, comp, w9, w10, W5.lb, W5.ls, Web.enc, letGo, pure?, dn]
  · obtain ⟨i, hi, rfl⟩ := List.mem_map.mp hr
    exact O3.lt i p hp
  · have : ∀ f s, S2 (fun i => ((List.range n).map fun i => (R i)).getD i []) f s n = S2 R f s n := fun f s => wx f s n fun i hi => by
      simp [List.getD, hi]
    rw [this, this]; exact O3.sym f s
  · obtain ⟨i, hi, rfl⟩ := List.mem_map.mp hr
    exact O3.wt i p hp
  · by_cases hi : i < n
    · have e : ((List.range n).map fun i => (R i)).getD i [] = R i := by simp [List.getD, hi]
      exact O3.ns i p (by rw [← e]; exact hp)
    · have e : ((List.range n).map fun i => (R i)).getD i [] = [] := by simp [List.getD, hi]
      have hp' : p ∈ ((List.range n).map fun i => (R i)).getD i [] := hp
      rw [e] at hp'; cases hp'
structure StH (n : Nat) (h : Hd) : Prop where
  st : ∀ i, i < n → ∃ y, h[1 + i]? = some (.lst [.int y])
  sts : h[n + 1]? = some (.lst ((List.range n).map fun i => .ref (1 + i)))
theorem EE {w : Web} {n : Nat} (W : w.Ok n) (ho : ∀ x ∈ w.stays, x = none ∨ x = some 0 ∨ x = some 1) (hn : n ≤ 30) {h : Hd} (H : StH n h) :
    ∃ s h', fD [w.enc, .ref (n + 1)] h = .ok (aB s) h' ∧ cW w n s ∧ StH n h' ∧ h'.length = h.length ∧ ∀ j, (j = 0 ∨ n + 1 ≤ j) → h'[j]? = h[j]? := by
  have hlt := (List.getElem?_eq_some_iff.mp H.sts).1
  obtain ⟨σ', h1, k1, acc, a, b, hs, e1, e2, q1, q2, q3, q4, q5, q6⟩ := cg (P := fun i σ h' => ∃ (acc : List Int) (a b : Option D) (hs : Hd), σ = [some w.enc, some (.ref (n + 1)), some (.ref h.length), a, b] ∧ h' = hs ++ [.lst (acc.map .int)] ∧ hs.length = h.length ∧ StH n hs ∧
      (∀ j, (j = 0 ∨ n + 1 ≤ j) → hs[j]? = h[j]?) ∧ acc.length = i ∧ (∀ x ∈ acc, x = 0 ∨ x = 1) ∧ ∀ (j : Nat) y, j < i → w.stays[j]? = some (some y) → acc[j]? = some y)
    (g := none) (k := 0) (all := (List.range n).map fun k : Nat => D.int k) (fun _ _ _ _ => trivial) (xs := (List.range n).map fun k : Nat => D.int k) (tg := gN 3) (b := eu)
    (σ := [some w.enc, some (.ref (n + 1)), some (.ref h.length), none, none]) (h := h ++ [.lst []]) (by
      rintro i x σ h0 hx ⟨acc, a, b, hs, rfl, rfl, q1, q2, q3, q4, q5, q6⟩
      obtain ⟨hi, rfl⟩ := cM hx
      rw [Nat.zero_add] at q4 q6 ⊢
      obtain ⟨y, ey⟩ := q2.st i hi
      have lt1 := (List.getElem?_eq_some_iff.mp ey).1
      have ey' : (hs ++ [.lst (acc.map .int)])[1 + i]? = some (.lst [.int y]) := by rw [List.getElem?_append_left lt1]; exact ey
      have es' : (hs ++ [.lst (acc.map .int)])[n + 1]? = some (.lst ((List.range n).map fun i => .ref (1 + i))) := by
        rw [List.getElem?_append_left (List.getElem?_eq_some_iff.mp q2.sts).1]; exact q2.sts
      have r1 := e8 (a := 1) hi
      have d1 := aT ey' (show (0 : Int) < 2 by omega) (by simp)
      have e3 : (hs ++ [bL.lst (acc.map D.int)]).set (1 + i) (.lst [.int (y / 2)]) = hs.set (1 + i) (.lst [.int (y / 2)]) ++ [bL.lst (acc.map D.int)] := by
        rw [List.set_append_left _ _ lt1]
      rw [e3] at d1
      have b0 := Int.emod_nonneg y (show (2 : Int) ≠ 0 by omega)
      have b1 := Int.emod_lt_of_pos y (show (0 : Int) < 2 by omega)
      have es : w.stays[i]? = some (w.stays[i]'(by rw [W.s]; exact hi)) := by simp
      have os := ho _ (List.getElem_mem (show i < w.stays.length by rw [W.s]; exact hi))
      generalize w.stays[i]'(by rw [W.s]; exact hi) = st at es os
      have pst : atI (w.stays.map bF) (i : Int) = some (bF st) := da (by simp [es])
      have lz : acc.length < 1000000 := by omega
      have found : ∀ v : Int, (v = 0 ∨ v = 1) → (∀ y, st = some y → v = y) → ∃ σ'' h'', Out.nx [some w.enc, some (.ref (n + 1)), some (.ref h.length), some (.int i), some (.int v)] (hs.set (1 + i) (.lst [.int (y / 2)]) ++ [.lst (acc.map .int ++ [.int v])]) = .nx σ'' h'' ∧
          ∃ (acc : List Int) (a b : Option D) (hs : Hd), σ'' = [some w.enc, some (.ref (n + 1)), some (.ref h.length), a, b] ∧ h'' = hs ++ [.lst (acc.map .int)] ∧ hs.length = h.length ∧ StH n hs ∧
            (∀ j, (j = 0 ∨ n + 1 ≤ j) → hs[j]? = h[j]?) ∧ acc.length = i + 1 ∧ (∀ x ∈ acc, x = 0 ∨ x = 1) ∧ ∀ (j : Nat) y, j < i + 1 → w.stays[j]? = some (some y) → acc[j]? = some y := by
        intro v hv hst
        refine ⟨_, _, rfl, acc ++ [v], _, _, hs.set (1 + i) (.lst [.int (y / 2)]), rfl, by simp, by simp [q1], ⟨fun j hj => ?_, ?_⟩, fun j hj => ?_, by simp [q4], fun x hx => ?_, fun j z hj e => ?_⟩
        · obtain ⟨z, ez⟩ := q2.st j hj
          by_cases ij : i = j
          · subst ij; exact ⟨y / 2, by rw [List.getElem?_set_self lt1]⟩
          · exact ⟨z, by rw [List.getElem?_set_ne (by omega)]; exact ez⟩
        · rw [List.getElem?_set_ne (by omega)]; exact q2.sts
        · rw [List.getElem?_set_ne (by omega)]; exact q3 j hj
        · rcases List.mem_append.mp hx with hx | hx
          · exact q5 x hx
          · simp at hx; subst hx; exact hv
        · by_cases ij : j < i
          · rw [List.getElem?_append_left (by omega)]; exact q6 j z ij e
          · have : j = i := by omega
            subst this
            rw [es] at e
            rw [List.getElem?_append_right (by omega)]
            simp [q4]
            exact hst z (Option.some.inj e)
      refine ⟨_, rfl, ?_⟩
      have hq : (hs.set (1 + i) (.lst [.int (y / 2)]) ++ [.lst (acc.map .int)])[h.length]? = some (.lst (acc.map .int)) := by
        rw [List.getElem?_append_right (by simp [q1])]; simp [q1]
      have hset : ∀ v : Int, (hs.set (1 + i) (.lst [.int (y / 2)]) ++ [bL.lst (acc.map D.int)]).set h.length (bL.lst (acc.map D.int ++ [D.int v])) = hs.set (1 + i) (.lst [.int (y / 2)]) ++ [bL.lst (acc.map D.int ++ [D.int v])] := fun v => by
        rw [List.set_append_right _ _ (by simp [q1])]; simp [q1]
      cases st with
      | none =>
        have eq : eu [some w.enc, some (.ref (n + 1)), some (.ref h.length), some (.int i), b] (hs ++ [bL.lst (acc.map D.int)]) = .nx [some w.enc, some (.ref (n + 1)), some (.ref h.length), some (.int i), some (.int (y % 2))] (hs.set (1 + i) (.lst [.int (y / 2)]) ++ [bL.lst (acc.map D.int ++ [D.int (y % 2)])]) := by
          simp [SZ, eu, es', r1, d1, Web.enc, pst, bF, hq, lz, hset]
        obtain ⟨σ'', h'', e, p⟩ := found (y % 2) (by omega) (by simp)
        exact ⟨σ'', h'', eq.trans e, p⟩
      | some z =>
        have eq : eu [some w.enc, some (.ref (n + 1)), some (.ref h.length), some (.int i), b] (hs ++ [bL.lst (acc.map D.int)]) = .nx [some w.enc, some (.ref (n + 1)), some (.ref h.length), some (.int i), some (.int z)] (hs.set (1 + i) (.lst [.int (y / 2)]) ++ [bL.lst (acc.map D.int ++ [D.int z])]) := by
          simp [SZ, eu, es', r1, d1, Web.enc, pst, bF, hq, lz, hset]
        obtain ⟨σ'', h'', e, p⟩ := found z (by simpa using os) (by simp)
        exact ⟨σ'', h'', eq.trans e, p⟩) ⟨[], _, _, h, rfl, rfl, rfl, H, fun j _ => rfl, rfl, by simp, fun j _ hj => by omega⟩
  subst e1 e2
  simp at q4 q6
  have hq : (hs ++ [.lst (acc.map .int)])[h.length]? = some (.lst (acc.map .int)) := by rw [List.getElem?_append_right (by omega)]; simp [q1]
  refine ⟨acc, hs, ?_, ⟨q4, q5, fun i x e => q6 i x (by have := (List.getElem?_eq_some_iff.mp e).1; rw [W.s] at this; exact this) e⟩, q2, q1, q3⟩
  have z1 : -1000000 ≤ (n : Int) := by omega
  have z2 : (n : Int) ≤ 1000000 := by omega
  have pu : ∀ l : List Int, dn (l.map .int) = true := fun l => by induction l with
    | nil => rfl
    | cons x l ih => simp [dn, pure?, ih]
  have hsts : (h ++ [.lst []])[n + 1]? = some (.lst ((List.range n).map fun i => .ref (1 + i))) := by rw [List.getElem?_append_left hlt]; exact H.sts
  have fin := su (h := h) (h' := hs) (g := [.lst (acc.map .int)]) (d := .tup (acc.map .int)) (by simp [pure?, pu]) q1 (by
    intro m c hm hc
    rw [List.getElem?_append_left (by omega)] at hc
    by_cases e : m = 0 ∨ n + 1 ≤ m
    · left; rw [← q3 m e]; exact hc
    · right
      obtain ⟨y, ey⟩ := q2.st (m - 1) (by omega)
      rw [show 1 + (m - 1) = m by omega, hc] at ey
      cases ey
      rfl)
  simp [SZ, fD, a8, runB, hsts, z1, z2, k1, hq, fin, aB]
end Fm
set_option linter.all false
namespace Fm
end Fm
set_option linter.all false
namespace Fm
def pR (x : Nat × Int) : List (Nat × Int) → List (Nat × Int)
  | [] => [x]
  | y :: r => if bN (toL x) (toL y) = true then x :: y :: r else y :: pR x r
def iP : List (Nat × Int) → List (Nat × Int)
  | [] => []
  | x :: r => pR x (iP r)
theorem wy (x : Nat × Int) : ∀ r, (pR x r).map toL = tY (toL x) (r.map toL)
  | [] => rfl
  | y :: r => by
    simp only [pR, tY, List.map_cons]
    split
    · rfl
    · simp [wy x r]
theorem sF : ∀ r, (iP r).map toL = dy (r.map toL)
  | [] => rfl
  | x :: r => by simp only [iP, dy, List.map_cons, wy, sF r]
theorem wz {x p : Nat × Int} : ∀ {r}, p ∈ pR x r → p = x ∨ p ∈ r
  | [], h => by simpa [pR] using h
  | y :: r, h => by
    simp only [pR] at h
    split at h
    · simpa using h
    · rcases List.mem_cons.mp h with rfl | h
      · exact .inr (by simp)
      · rcases wz h with h | h
        · exact .inl h
        · exact .inr (by simp [h])
theorem jx {p : Nat × Int} : ∀ {r}, p ∈ iP r → p ∈ r
  | [], h => h
  | x :: r, h => by
    rcases wz h with rfl | h
    · simp
    · simp [jx h]
theorem wA (f : Nat × Int → Int) (x : Nat × Int) : ∀ r, ((pR x r).map f).sum = f x + (r.map f).sum
  | [] => by simp [pR]
  | y :: r => by
    simp only [pR]
    split
    · simp
    · simp [wA f x r]; omega
theorem lM (f : Nat × Int → Int) : ∀ r, ((iP r).map f).sum = (r.map f).sum
  | [] => rfl
  | x :: r => by simp [iP, wA, lM f r]
theorem Gi (r : List (Nat × Int)) : r.map cr = (r.map toL).map tZ := by
  rw [List.map_map]; rfl
theorem Gj {p q : Nat × Int} (h : toL p = toL q) : p.1 = q.1 := by
  have := (List.cons.inj h).1
  omega
theorem wB {r : List (Nat × Int)} (nd : (r.map (·.1)).Nodup) (hl : r.length < 64) : kA (r.map cr) = some ((iP r).map cr) := by
  have nd' : (r.map toL).Nodup := by
    rw [List.nodup_iff_pairwise_ne, List.pairwise_map] at nd ⊢
    exact nd.imp fun {a b} h e => h (Gj e)
  have ne : (r.map toL).all (fun x => !x.isEmpty) = true := by
    rw [List.all_map, List.all_eq_true]; intro p _; rfl
  have hr : mZ (r.map cr) = some (r.map toL) := ww r
  have l : (r.map cr).length < 64 := by simpa using hl
  simp only [kA, hr]
  rw [if_pos ⟨l, ne, nd'⟩, ← sF, Gi]
structure LR (n m : Nat) (R : Nat → List (Nat × Int)) : Prop where
  nd : ∀ i, ((R i).map (·.1)).Nodup
  lt : ∀ i p, p ∈ R i → p.1 < n
  wt : ∀ i p, p ∈ R i → 1 ≤ p.2 ∧ p.2 ≤ 31
  len : ∀ i, (R i).length ≤ 2 * m
  sym : ∀ f s, S2 R f s n = S2 R s f n
  loc : m < n → ∀ i p, p ∈ R i → (p.1 + 1 = i ∧ p.1 < m) ∨ (p.1 = i + 1 ∧ i < m)
  ns : ∀ i p, p ∈ R i → p.1 ≠ i
theorem ot {l : List Nat} {x : Nat} (h : l.Nodup) (hx : x ∉ l) : (l ++ [x]).Nodup := by
  rw [List.nodup_append]
  refine ⟨h, by simp, fun a ha b hb e => ?_⟩
  simp at hb
  subst hb e
  exact hx ha
theorem LR.put {n m : Nat} (hn : 3 ≤ n) {R : Nat → List (Nat × Int)} (o : LR n m R) (hm : m < n) {v : Int} (h1 : 1 ≤ v) (h2 : v ≤ 31) : LR n (m + 1) (cX (cX R m ((m + 1) % n, v)) ((m + 1) % n) (m, v)) := by
  have loc := o.loc hm
  obtain ⟨j, hj⟩ : ∃ j, j = (m + 1) % n := ⟨_, rfl⟩
  rw [← hj]
  have jn : j < n := by rw [hj]; exact Nat.mod_lt _ (by omega)
  have jm : j ≠ m := by
    by_cases e : m + 1 < n
    · rw [hj, Nat.mod_eq_of_lt e]; omega
    · have : m + 1 = n := by omega
      rw [hj, this, Nat.mod_self]; omega
  have j0 : j = m + 1 ∨ (m + 1 = n ∧ j = 0) := by
    by_cases e : m + 1 < n
    · exact .inl (by rw [hj, Nat.mod_eq_of_lt e])
    · have : m + 1 = n := by omega
      exact .inr ⟨this, by rw [hj, this, Nat.mod_self]⟩
  have f1 : j ∉ (R m).map (·.1) := fun z => by
    obtain ⟨p, hp, e⟩ := List.mem_map.mp z
    rcases loc m p hp with q | q <;> rcases j0 with w | w <;> omega
  have f2 : m ∉ (R j).map (·.1) := fun z => by
    obtain ⟨p, hp, e⟩ := List.mem_map.mp z
    rcases loc j p hp with q | q <;> rcases j0 with w | w <;> omega
  refine ⟨fun i => ?_, fun i p hp => ?_, fun i p hp => ?_, fun i => ?_, fun f s => ?_, fun hm1 i p hp => ?_, fun i p hp => ?_⟩
  · have nd := o.nd i
    simp only [cX]
    by_cases e1 : i = j
    · subst e1
      rw [if_pos rfl, if_neg jm, List.map_append]
      exact ot nd f2
    · rw [if_neg e1]
      by_cases e2 : i = m
      · subst e2
        rw [if_pos rfl, List.map_append]
        exact ot nd f1
      · rw [if_neg e2]; exact nd
  · rcases dz hp with hp | rfl
    · rcases dz hp with hp | rfl
      · exact o.lt _ _ hp
      · exact jn
    · exact hm
  · rcases dz hp with hp | rfl
    · rcases dz hp with hp | rfl
      · exact o.wt _ _ hp
      · exact ⟨h1, h2⟩
    · exact ⟨h1, h2⟩
  · have := o.len i
    simp only [cX]
    split <;> split <;> simp <;> omega
  · rw [iu, iu, iu, iu, o.sym f s]
    simp only [hm, jn, if_true]
    have e1 : v * f j * s m = v * s m * f j := by rw [Int.mul_assoc, Int.mul_assoc, Int.mul_comm (f j)]
    have e2 : v * f m * s j = v * s j * f m := by rw [Int.mul_assoc, Int.mul_assoc, Int.mul_comm (f m)]
    rw [e1, e2]; omega
  · have hj1 : j = m + 1 := by rcases j0 with w | w <;> omega
    simp only [cX] at hp
    by_cases e1 : i = j
    · subst e1
      rw [if_pos rfl, if_neg jm] at hp
      rcases List.mem_append.mp hp with hp | hp
      · rcases loc _ p hp with q | q <;> omega
      · simp at hp; subst hp; simp; omega
    · rw [if_neg e1] at hp
      by_cases e2 : i = m
      · subst e2
        rw [if_pos rfl] at hp
        rcases List.mem_append.mp hp with hp | hp
        · rcases loc _ p hp with q | q <;> omega
        · simp at hp; subst hp; simp; omega
      · rw [if_neg e2] at hp
        rcases loc _ p hp with q | q <;> omega
  · simp only [cX] at hp
    by_cases e1 : i = j
    · rw [if_pos e1] at hp
      rcases List.mem_append.mp hp with hp | hp
      · rw [if_neg (by omega)] at hp; exact o.ns _ p hp
      · simp at hp; subst hp; simp; omega
    · rw [if_neg e1] at hp
      by_cases e2 : i = m
      · rw [if_pos e2] at hp
        rcases List.mem_append.mp hp with hp | hp
        · exact o.ns _ p hp
        · simp at hp; subst hp; simp; omega
      · rw [if_neg e2] at hp; exact o.ns _ p hp
structure WL (ho : Hd) (A B n : Nat) (R : Nat → List (Nat × Int)) (h : Hd) : Prop where
  old : ∀ j, j < A → j ≠ B → h[j]? = ho[j]?
  hd : ∃ y, h[B]? = some (.lst [.int y])
  ti : ∀ i, i < n → h[A + i]? = some (.lst ((R i).map cr))
  tis : h[A + n]? = some (.lst ((List.range n).map fun i => .ref (A + i)))
theorem WL.setB {ho : Hd} {A B n : Nat} {R : Nat → List (Nat × Int)} {h : Hd} (w : WL ho A B n R h) (hB : B < A) (y : Int) : WL ho A B n R (h.set B (.lst [.int y])) where
  old := fun j hj nb => by rw [List.getElem?_set_ne (by omega)]; exact w.old j hj nb
  hd := by obtain ⟨x, e⟩ := w.hd; exact ⟨y, by rw [List.getElem?_set_self (List.getElem?_eq_some_iff.mp e).1]⟩
  ti := fun i hi => by rw [List.getElem?_set_ne (by omega)]; exact w.ti i hi
  tis := by rw [List.getElem?_set_ne (by omega)]; exact w.tis
theorem WL.more {ho : Hd} {A B n : Nat} {R : Nat → List (Nat × Int)} {h : Hd} (w : WL ho A B n R h) (c : Hd) : WL ho A B n R (h ++ c) := by
  have lA : A < h.length := by have := (List.getElem?_eq_some_iff.mp w.tis).1; omega
  have k : ∀ {i : Nat} {x : bL}, h[i]? = some x → (h ++ c)[i]? = some x := fun {i x} e => by
    rw [List.getElem?_append_left (List.getElem?_eq_some_iff.mp e).1]; exact e
  exact ⟨fun j hj nb => by rw [List.getElem?_append_left (by omega)]; exact w.old j hj nb, let ⟨x, e⟩ := w.hd; ⟨x, k e⟩, fun i hi => k (w.ti i hi), k w.tis⟩
theorem WL.app {ho : Hd} {A B n : Nat} {R : Nat → List (Nat × Int)} {h : Hd} (w : WL ho A B n R h) (hB : B < A) {i : Nat} (hi : i < n) (p : Nat × Int) : WL ho A B n (cX R i p) (h.set (A + i) (.lst ((R i).map cr ++ [cr p]))) where
  old := fun j hj nb => by rw [List.getElem?_set_ne (by omega)]; exact w.old j hj nb
  hd := by obtain ⟨x, e⟩ := w.hd; exact ⟨x, by rw [List.getElem?_set_ne (by omega)]; exact e⟩
  ti := fun j hj => by
    by_cases q : i = j
    · subst q
      have := (List.getElem?_eq_some_iff.mp (w.ti i hj)).1
      rw [List.getElem?_set_self this]
      simp [cX]
    · rw [List.getElem?_set_ne (by omega), w.ti j hj, cX, if_neg (by omega)]
  tis := by rw [List.getElem?_set_ne (by omega)]; exact w.tis
theorem Ch {ho : Hd} {A B n M : Nat} (hB : B < A) (hn : 3 ≤ n) (hn30 : n ≤ 30) (hM : M ≤ n) {r g : Int} (r0 : r = 0 ∨ r = 1) {R : Nat → List (Nat × Int)} {h : Hd} (w : WL ho A B n R h) (o : LR n 0 R) (rest : Sd) :
    ∃ a b R' h', cV none ((List.range M).map fun k : Nat => D.int k) (gN 5) jw ((List.range M).map fun k : Nat => D.int k)
      ([some (.ref B), some (.int n), some (.int r), some (.int g), some (.ref (A + n)), none, none] ++ rest) h
      = .nx ([some (.ref B), some (.int n), some (.int r), some (.int g), some (.ref (A + n)), a, b] ++ rest) h' ∧ WL ho A B n R' h' ∧ LR n M R' ∧ h'.length = h.length := by
  obtain ⟨σ', h', h1, R', a', b', h2, h3, h4, h5⟩ := cg (P := fun i σ h' => ∃ R a b, σ = ([some (.ref B), some (.int n), some (.int r), some (.int g), some (.ref (A + n)), a, b] ++ rest) ∧ WL ho A B n R h' ∧ LR n i R ∧ h'.length = h.length)
    (g := none) (k := 0) (all := (List.range M).map fun k : Nat => D.int k) (fun _ _ _ _ => trivial) (xs := (List.range M).map fun k : Nat => D.int k) (tg := gN 5) (b := jw)
    (σ := ([some (.ref B), some (.int n), some (.int r), some (.int g), some (.ref (A + n)), none, none] ++ rest)) (h := h) (by
      rintro i x σ h0 hx ⟨R, a, b, rfl, w, o, hl⟩
      obtain ⟨hi, rfl⟩ := cM hx
      rw [Nat.zero_add] at o ⊢
      have hin : i < n := by omega
      obtain ⟨v, hv⟩ : ∃ v : Int, v = 1 + r * i := ⟨_, rfl⟩
      have v1 : 1 ≤ v ∧ v ≤ 31 := by rcases r0 with e | e <;> subst e <;> simp at hv <;> omega
      have sm : sml r = true := uf r0
      have o3 := o.put hn hin v1.1 v1.2
      have mi : ((i : Int) + 1) % (n : Int) = (((i + 1) % n : Nat) : Int) := by norm_cast
      have jn : (i + 1) % n < n := Nat.mod_lt _ (by omega)
      generalize (i + 1) % n = j at mi jn o3
      have r1 := e8 (a := A) hin
      have r2 := e8 (a := A) jn
      have t1 := w.ti i hin
      have w2 := w.app hB hin (j, v)
      have t2 := w2.ti _ jn
      have w3 := w2.app hB jn (i, v)
      have l1 : ((R i).map cr).length < 1000000 := by have := o.len i; simp; omega
      have l2 : (((cX R i (j, v)) j).map cr).length < 1000000 := by
        have := o.len j
        simp only [cX]; split <;> simp <;> omega
      have n0 : 0 < n := by omega
      refine ⟨_, rfl, ([some (.ref B), some (.int n), some (.int r), some (.int g), some (.ref (A + n)), some (.int i), some (.int v)] ++ rest), _, ?_, _, _, _, rfl, w3, o3, by simp [hl]⟩
      have s2 := w2.tis
      simp only [cr] at t1 t2 l1 l2 s2
      have s1 : aH (gN 6) (ao cE (fC (.int 1)) (ao dw (aa 2) (aa 5))) ([some (.ref B), some (.int n), some (.int r), some (.int g), some (.ref (A + n)), some (.int i), b] ++ rest) h0 = .nx ([some (.ref B), some (.int n), some (.int r), some (.int g), some (.ref (A + n)), some (.int i), some (.int v)] ++ rest) h0 := by
        rw [hv]; simp [sm]
      show aC _ _ ([some (.ref B), some (.int n), some (.int r), some (.int g), some (.ref (A + n)), some (.int i), b] ++ rest) h0 = _
      rw [bA s1]
      simp [-List.length_map, SZ, w.tis, r1, t1, l1, n0, mi, s2, r2, t2, l2, cr]) ⟨R, _, _, rfl, w, o, rfl⟩
  refine ⟨a', b', R', h', ?_, h3, ?_, h5⟩
  · rw [h1, h2]
  · simpa using h4
end Fm
set_option linter.all false
namespace Fm
noncomputable def eP : Fn := a8 1 10 (aC (aH (gN 1) (ao cE (fC (.int 3)) (aw ar (af (aa 0) (af (fC (.int 28)) av)))))
    (aC (aH (gN 2) (aw ar (af (aa 0) (af (fC (.int 2)) av))))
    (aC (aH (gN 3) (aw ar (af (aa 0) (af (fC (.int 2)) av))))
    (aC (aH (gN 4) (bo (bO 1 [] (bZ (aa 1)) (gN 0) [] (bo av))))
    (aC (gn (bZ (ao cE (ao vO (aa 1) (fC (.int 1))) (aa 3))) (gN 5) jw)
    (aC (aH (gN 7) (bo (bO 1 [] (db (aa 4)) (gN 0) [] (kr (bO 2 [] (db (aa 0)) (gT [0, 1]) [] (aa 1))))))
    (aC (sIf (tE (ao oGt (aw ar (af (aa 0) (af (fC (.int 3)) av))) (fC (.int 0)))) (aH (gN 7) (bo (bO 1 [] (db (aa 4)) (gN 0) [] (fC (.int 1))))) bS)
    (aC (aH (gN 8) (ao Ic (fC (.int 1)) (ao dw (aw ar (af (aa 0) (af (fC (.int 2)) av))) (ao vO (aa 1) (fC (.int 1))))))
    (aC (sIf (tE (ao oEq (aw ar (af (aa 0) (af (fC (.int 3)) av))) (fC (.int 0)))) (aH (gN 8) (aw ar (af (aa 0) (af (ao DF (fC (.int 2)) (fC (.int 30))) av)))) bS)
    (aC (aH (gN 9) (cK (bO 1 [8] (bZ (aa 1)) (gN 0) [] (ao nZ (ao B5 (aa 1) (aa 0)) (fC (.int 1))))))
    (bi (eW (af (eW (af (cK (bO 1 [] (db (aa 4)) (gN 0) [] (cK (i0 (aa 0))))) (af (cK (lOf (aa 7))) (af (ao Bh (eW (af (fC .non) av)) (aa 1)) av)))) (af (aa 9) av))))))))))))))
noncomputable abbrev j7 : SF := (gX (FR (aa 3) (aw ar (af (aa 5) (af (ao cE (ei (lOf (aa 3))) (fC (.int 1))) av))) (aw ar (af (aa 5) (af (aa 1) av)))))
noncomputable abbrev j8 : SF := (gX (FR (aa 3) (aw ar (af (aa 2) (af (ao cE (aa 4) (fC (.int 1))) av))) (aa 4)))
end Fm
set_option linter.all false
namespace Fm
theorem Bz : ∀ n, (List.replicate n [D.non]).flatten = (List.replicate n (none : Option Int)).map bF
  | 0 => rfl
  | n + 1 => by rw [List.replicate_succ, List.replicate_succ, List.flatten_cons, Bz n]; rfl
structure Gk (x : Int) (h : Hd) (B n : Nat) (w : Web) (s : List Int) (h' : Hd) : Prop where
  run : eP [.ref B] h = .ok (.tup [w.enc, aB s]) h'
  nn : (n : Int) = 3 + x % 28
  n30 : n ≤ 30
  ok : w.Ok n
  st : dJ w
  ft : cW w n s
  sym : ∀ f s, S2 (fun i => w.ties.getD i []) f s n = S2 (fun i => w.ties.getD i []) s f n
  ns : ∀ i p, p ∈ w.ties.getD i [] → p.1 ≠ i
  wt : ∀ i, ∀ p ∈ w.ties.getD i [], 1 ≤ p.2
  len : h'.length = h.length
  old : ∀ j, j < h.length → j ≠ B → h'[j]? = h[j]?
  fr : ∀ x ∈ w.stays, x = none
  bb : ∀ i, i < n → 0 ≤ w.bars.getD i 0 ∧ w.bars.getD i 0 ≤ 2000
  ab : ∀ i, i < n → yG (w.ties.getD i []) ≤ 2000
theorem Gm {h : Hd} {B : Nat} {x : Int} (hx : h[B]? = some (.lst [.int x])) : ∃ n w s h', Gk x h B n w s h' := by
  have hBl : B < h.length := (List.getElem?_eq_some_iff.mp hx).1
  obtain ⟨A, hA⟩ : ∃ A, A = h.length := ⟨_, rfl⟩
  have hB : B < A := by omega
  have d1 := aT hx (show (0 : Int) < 28 by omega) (by simp)
  have g1 : (h.set B (.lst [.int (x / 28)]))[B]? = some (.lst [.int (x / 28)]) := by rw [List.getElem?_set_self hBl]
  have d2 := aT g1 (show (0 : Int) < 2 by omega) (by simp)
  rw [List.set_set] at d2
  have g2 : (h.set B (.lst [.int (x / 28 / 2)]))[B]? = some (.lst [.int (x / 28 / 2)]) := by rw [List.getElem?_set_self hBl]
  have d3 := aT g2 (show (0 : Int) < 2 by omega) (by simp)
  rw [List.set_set] at d3
  have b0 := Int.emod_nonneg x (show (28 : Int) ≠ 0 by omega)
  have b1 := Int.emod_lt_of_pos x (show (0 : Int) < 28 by omega)
  obtain ⟨n, hn⟩ : ∃ n : Nat, (n : Int) = 3 + x % 28 := ⟨(3 + x % 28).toNat, by omega⟩
  have n3 : 3 ≤ n := by omega
  have n30 : n ≤ 30 := by omega
  obtain ⟨r, hr⟩ : ∃ r, r = x / 28 % 2 := ⟨_, rfl⟩
  have r0 : r = 0 ∨ r = 1 := by omega
  obtain ⟨gg, hgg⟩ : ∃ g : Nat, (g : Int) = x / 28 / 2 % 2 := ⟨(x / 28 / 2 % 2).toNat, by omega⟩
  have gg1 : gg ≤ 1 := by omega
  obtain ⟨h3, hh3⟩ : ∃ h3, h3 = h.set B (.lst [.int (x / 28 / 2 / 2)]) := ⟨_, rfl⟩
  rw [← hh3, ← hgg] at d3
  rw [← hr] at d2
  have l3 : h3.length = A := by rw [hh3, List.length_set, hA]
  have g3 : h3[B]? = some (.lst [.int (x / 28 / 2 / 2)]) := by rw [hh3, List.getElem?_set_self hBl]
  have s1 : aH (gN 1) (ao cE (fC (.int 3)) (aw ar (af (aa 0) (af (fC (.int 28)) av)))) [some (.ref B), none, none, none, none, none, none, none, none, none] h = .nx [some (.ref B), some (.int n), none, none, none, none, none, none, none, none] (h.set B (.lst [.int (x / 28)])) := by
    simp [d1, hn]
  have s2 : aH (gN 2) (aw ar (af (aa 0) (af (fC (.int 2)) av))) [some (.ref B), some (.int n), none, none, none, none, none, none, none, none] (h.set B (.lst [.int (x / 28)])) = .nx [some (.ref B), some (.int n), some (.int r), none, none, none, none, none, none, none] (h.set B (.lst [.int (x / 28 / 2)])) := by
    simp [d2]
  have s3 : aH (gN 3) (aw ar (af (aa 0) (af (fC (.int 2)) av))) [some (.ref B), some (.int n), some (.int r), none, none, none, none, none, none, none] (h.set B (.lst [.int (x / 28 / 2)])) = .nx [some (.ref B), some (.int n), some (.int r), some (.int gg), none, none, none, none, none, none] h3 := by
    simp [d3]
  clear b0 b1 hr hgg
  have hn' : PLift ((n : Int) = 3 + x % 28) := ⟨hn⟩
  clear hn
  obtain ⟨ds, h4, k4, l4, v4, σ4, q4, hh4, g4, g5⟩ := io (g := none) (all := (List.range n).map fun k : Nat => D.int k) (tg := gN 0) (xs := (List.range n).map fun k : Nat => D.int k) (k := 0)
    (e := bo av) (σ := [none]) (h := h3)
    (P := fun i σ h => (∃ a, σ = [a]) ∧ h.length = A + i ∧ (∀ j, j < A → h[j]? = h3[j]?) ∧ ∀ j, j < i → h[A + j]? = some (.lst [])) (V := fun i d => d = .ref (A + i)) (fun _ _ _ _ => trivial) (by
      rintro i x σ h0 hx ⟨⟨a, rfl⟩, hl, e0, e1⟩
      obtain ⟨hi, rfl⟩ := cM hx
      rw [Nat.zero_add] at hl e1 ⊢
      refine ⟨_, rfl, .ref h0.length, h0 ++ [.lst []], by simp [SZ], by rw [hl], ⟨_, rfl⟩, by simp [hl]; omega, fun j hj => ?_, fun j hj => ?_⟩
      · rw [List.getElem?_append_left (by omega)]; exact e0 j hj
      · by_cases hji : j < i
        · rw [List.getElem?_append_left (by omega)]; exact e1 j hji
        · have : j = i := by omega
          subst this
          rw [List.getElem?_append_right (by omega)]; simp [hl]) ⟨⟨_, rfl⟩, by omega, fun j _ => rfl, fun j hj => by omega⟩
  simp at l4 hh4 g5
  have e4 : ds = (List.range n).map fun i => .ref (A + i) := j4 l4 fun i d hd => by simpa using v4 i d hd
  subst e4
  have z1 : -1000000 ≤ (n : Int) := by omega
  have z2 : (n : Int) ≤ 1000000 := by omega
  have z3 : n ≤ 1000000 := by omega
  obtain ⟨h5, hh5⟩ : ∃ h5, h5 = h4 ++ [.lst ((List.range n).map fun i => .ref (A + i))] := ⟨_, rfl⟩
  have s4 : aH (gN 4) (bo (bO 1 [] (bZ (aa 1)) (gN 0) [] (bo av))) [some (.ref B), some (.int n), some (.int r), some (.int gg), none, none, none, none, none, none] h3 = .nx [some (.ref B), some (.int n), some (.int r), some (.int gg), some (.ref (A + n)), none, none, none, none, none] h5 := by
    rw [hh5]
    simp [z1, z2, k4, SZ, z3, hh4]
  have W5 : WL h A B n (fun _ => []) h5 := by
    refine ⟨fun j hj nb => ?_, ⟨x / 28 / 2 / 2, ?_⟩, fun i hi => ?_, ?_⟩
    · rw [hh5, List.getElem?_append_left (by omega), g4 j hj, hh3, List.getElem?_set_ne (by omega)]
    · rw [hh5, List.getElem?_append_left (by omega), g4 B hB]; exact g3
    · rw [hh5, List.getElem?_append_left (by omega), g5 i hi]; rfl
    · rw [hh5, List.getElem?_append_right (by omega)]; simp [hh4]
  have O5 : LR n 0 (fun _ => []) := ⟨by simp, by simp, by simp, by simp, fun f s => by
    have : ∀ f s k, S2 (fun _ => []) f s k = 0 := fun f s k => by induction k with
      | zero => rfl
      | succ k ih => simp [S2, ih]
    rw [this, this], by simp, by simp⟩
  obtain ⟨a6, b6, R, h6, k6, W6, O6, L6⟩ := Ch hB n3 n30 (M := n - 1 + gg) (by omega) (r := r) (g := gg) r0 W5 O5 [none, none, none]
  clear r0
  simp only [List.cons_append, List.nil_append] at k6
  have L6' : h6.length = A + n + 1 := by rw [L6, hh5]; simp [hh4]
  have s5 : gn (bZ (ao cE (ao vO (aa 1) (fC (.int 1))) (aa 3))) (gN 5) jw [some (.ref B), some (.int n), some (.int r), some (.int gg), some (.ref (A + n)), none, none, none, none, none] h5 = .nx [some (.ref B), some (.int n), some (.int r), some (.int gg), some (.ref (A + n)), a6, b6, none, none, none] h6 := by
    have y1 : -1000000 ≤ (n : Int) - 1 + gg := by omega
    have y2 : (n : Int) - 1 + gg ≤ 1000000 := by omega
    have y3 : ((n : Int) - 1 + gg).toNat = n - 1 + gg := by omega
    simp [y1, y2, y3, k6]
  have rs : ∀ i, 0 ≤ ((R i).map (·.2)).sum ∧ ((R i).map (·.2)).sum ≤ 2000 ∧ yG (R i) = ((R i).map (·.2)).sum := fun i => by
    have hl := O6.len i
    have : ∀ l : List (Nat × Int), (∀ p ∈ l, 1 ≤ p.2 ∧ p.2 ≤ 31) → 0 ≤ (l.map (·.2)).sum ∧ (l.map (·.2)).sum ≤ 31 * l.length ∧ yG l = (l.map (·.2)).sum := by
      intro l
      induction l with
      | nil => intro _; simp [yG]
      | cons p l ih =>
        intro hp
        have h1 := hp p (by simp)
        have h2 := ih fun q hq => hp q (by simp [hq])
        simp [yG] at h2 ⊢
        omega
    have := this (R i) fun p hp => O6.wt i p hp
    omega
  have inner : ∀ i, i < n → ∀ σ0 : Option D, kr (bO 2 [] (db (aa 0)) (gT [0, 1]) [] (aa 1)) [some (.ref (A + i))] h6 = .ok (.int ((R i).map (·.2)).sum) h6 := fun i hi _ => by
    have ti := W6.ti i hi
    have comp : cz (some (A + i)) ((R i).map cr) (gT [0, 1]) [] (aa 1) ((R i).map cr) [none, none] h6 = .ok (((R i).map (·.2)).map D.int) h6 := by
      have := bM (g := some (A + i)) (all := (R i).map cr) (tg := gT [0, 1]) (cs := []) (e := aa 1) (h := h6) (I := fun σ => ∃ a b, σ = [a, b]) (fun _ => true) (fun d => match d with | .tup [_, x] => x | _ => .non) ti (xs := (R i).map cr) (σ := [none, none]) (by
        rintro x hx σ ⟨a, b, rfl⟩
        obtain ⟨q, hq, rfl⟩ := List.mem_map.mp hx
        exact ⟨_, rfl, ⟨_, _, rfl⟩, rfl, fun _ => rfl⟩) ⟨_, _, rfl⟩
      rw [this, List.filter_eq_self.mpr (by simp), List.map_map, List.map_map]
      rfl
    simp [ti, comp, jt, -List.map_map]
  have outer : cz (some (A + n)) ((List.range n).map fun i => .ref (A + i)) (gN 0) [] (kr (bO 2 [] (db (aa 0)) (gT [0, 1]) [] (aa 1))) ((List.range n).map fun i => .ref (A + i)) [none] h6 = .ok (((List.range n).map fun i => ((R i).map (·.2)).sum).map D.int) h6 := by
    have := bM (g := some (A + n)) (all := (List.range n).map fun i => .ref (A + i)) (tg := gN 0) (cs := []) (e := kr (bO 2 [] (db (aa 0)) (gT [0, 1]) [] (aa 1))) (h := h6) (I := fun σ => ∃ a, σ = [a]) (fun _ => true) (fun d => match d with | .ref k => .int ((R (k - A)).map (·.2)).sum | _ => .non) W6.tis (xs := (List.range n).map fun i => .ref (A + i)) (σ := [none]) (by
      rintro x hx σ ⟨a, rfl⟩
      obtain ⟨i, hi, rfl⟩ := List.mem_map.mp hx
      have hi := List.mem_range.mp hi
      refine ⟨_, rfl, ⟨_, rfl⟩, rfl, fun _ => ?_⟩
      have := inner i hi none
      simp only [Nat.add_sub_cancel_left]
      exact this) ⟨_, rfl⟩
    rw [this, List.filter_eq_self.mpr (by simp), List.map_map, List.map_map]
    congr 1
    apply List.map_congr_left
    intro i _
    simp
  obtain ⟨bs0, hbs0⟩ : ∃ bs0, bs0 = (List.range n).map fun i => ((R i).map (·.2)).sum := ⟨_, rfl⟩
  rw [← hbs0] at outer
  have lb0 : bs0.length = n := by rw [hbs0]; simp
  have ob0 : ∀ b ∈ bs0, 0 ≤ b ∧ b ≤ 2000 := fun b hb => by
    rw [hbs0] at hb
    obtain ⟨i, _, rfl⟩ := List.mem_map.mp hb
    exact ⟨(rs i).1, (rs i).2.1⟩
  have t6 := W6.tis
  obtain ⟨h7, hh7⟩ : ∃ h7, h7 = h6 ++ [.lst (bs0.map .int)] := ⟨_, rfl⟩
  have s6 : aH (gN 7) (bo (bO 1 [] (db (aa 4)) (gN 0) [] (kr (bO 2 [] (db (aa 0)) (gT [0, 1]) [] (aa 1))))) [some (.ref B), some (.int n), some (.int r), some (.int gg), some (.ref (A + n)), a6, b6, none, none, none] h6
      = .nx [some (.ref B), some (.int n), some (.int r), some (.int gg), some (.ref (A + n)), a6, b6, some (.ref (A + n + 1)), none, none] h7 := by
    have lz : bs0.length ≤ 1000000 := by omega
    rw [hh7]
    clear inner
    generalize (kr (bO 2 [] (db (aa 0)) (gT [0, 1]) [] (aa 1))) = E at outer ⊢
    simp [t6, outer, SZ, lz]
    omega
  have W7 : WL h A B n R h7 := by rw [hh7]; exact W6.more _
  have bar7 : h7[A + n + 1]? = some (.lst (bs0.map .int)) := by rw [hh7, List.getElem?_append_right (by omega)]; simp [L6']
  have L7 : h7.length = A + n + 2 := by rw [hh7]; simp [L6']
  obtain ⟨y7, ey7⟩ := W7.hd
  have d7 := aT ey7 (show (0 : Int) < 3 by omega) (by simp)
  obtain ⟨h8, hh8⟩ : ∃ h8, h8 = h7.set B (.lst [.int (y7 / 3)]) := ⟨_, rfl⟩
  rw [← hh8] at d7
  have W8 : WL h A B n R h8 := by rw [hh8]; exact W7.setB hB _
  have bar8 : h8[A + n + 1]? = some (.lst (bs0.map .int)) := by rw [hh8, List.getElem?_set_ne (by omega)]; exact bar7
  have L8 : h8.length = A + n + 2 := by rw [hh8]; simp [L7]
  generalize y7 % 3 = way at d7
  have s8 : ∃ (a : Nat) (bs : List Int) (h9 : Hd), sIf (tE (ao oGt (aw ar (af (aa 0) (af (fC (.int 3)) av))) (fC (.int 0)))) (aH (gN 7) (bo (bO 1 [] (db (aa 4)) (gN 0) [] (fC (.int 1))))) bS [some (.ref B), some (.int n), some (.int r), some (.int gg), some (.ref (A + n)), a6, b6, some (.ref (A + n + 1)), none, none] h7
      = .nx [some (.ref B), some (.int n), some (.int r), some (.int gg), some (.ref (A + n)), a6, b6, some (.ref a), none, none] h9 ∧ WL h A B n R h9 ∧ h9[a]? = some (.lst (bs.map .int)) ∧ bs.length = n ∧ (∀ b ∈ bs, 0 ≤ b ∧ b ≤ 2000) ∧ A + n < a := by
    by_cases e : 0 < way
    · have t8 := W8.tis
      have ones : cz (some (A + n)) ((List.range n).map fun i => .ref (A + i)) (gN 0) [] (fC (.int 1)) ((List.range n).map fun i => .ref (A + i)) [none] h8 = .ok ((List.replicate n 1).map D.int) h8 := by
        have := bM (g := some (A + n)) (all := (List.range n).map fun i => .ref (A + i)) (tg := gN 0) (cs := []) (e := fC (.int 1)) (h := h8) (I := fun σ => ∃ a, σ = [a]) (fun _ => true) (fun d => .int 1) W8.tis (xs := (List.range n).map fun i => .ref (A + i)) (σ := [none]) (by
          rintro x hx σ ⟨a, rfl⟩
          obtain ⟨i, hi, rfl⟩ := List.mem_map.mp hx
          exact ⟨_, rfl, ⟨_, rfl⟩, rfl, fun _ => rfl⟩) ⟨_, rfl⟩
        rw [this, List.filter_eq_self.mpr (by simp), List.map_map]
        congr 1
        rw [List.map_replicate]
        apply List.ext_getElem?
        intro i
        by_cases hi : i < n <;> simp [hi]
      refine ⟨A + n + 2, List.replicate n 1, h8 ++ [.lst ((List.replicate n 1).map .int)], ?_, W8.more _, ?_, by simp, fun b hb => ?_, by omega⟩
      · simp only [List.map_replicate] at ones
        simp [e, d7, t8, ones, SZ, z3]
        omega
      · rw [List.getElem?_append_right (by omega)]; simp [L8]
      · have := List.eq_of_mem_replicate hb
        omega
    · exact ⟨A + n + 1, bs0, h8, by simp [e, d7], W8, bar8, lb0, ob0, by omega⟩
  obtain ⟨a, bs, h9, s8, W9, bar9, lb9, ob9, ha⟩ := s8
  obtain ⟨y9, ey9⟩ := W9.hd
  have d9 := aT ey9 (show (0 : Int) < 2 by omega) (by simp)
  obtain ⟨h10, hh10⟩ : ∃ h10, h10 = h9.set B (.lst [.int (y9 / 2)]) := ⟨_, rfl⟩
  rw [← hh10] at d9
  have W10 : WL h A B n R h10 := by rw [hh10]; exact W9.setB hB _
  have bar10 : h10[a]? = some (.lst (bs.map .int)) := by rw [hh10, List.getElem?_set_ne (by omega)]; exact bar9
  have v0 : y9 % 2 = 0 ∨ y9 % 2 = 1 := by omega
  generalize y9 % 2 = v9 at d9 v0
  obtain ⟨bits, hbits, bt0, s9⟩ : ∃ bits : Int, bits = 2 ^ (v9 * ((n : Int) - 1)).toNat ∧ 0 ≤ bits ∧ aH (gN 8) (ao Ic (fC (.int 1)) (ao dw (aw ar (af (aa 0) (af (fC (.int 2)) av))) (ao vO (aa 1) (fC (.int 1))))) [some (.ref B), some (.int n), some (.int r), some (.int gg), some (.ref (A + n)), a6, b6, some (.ref a), none, none] h9
      = .nx [some (.ref B), some (.int n), some (.int r), some (.int gg), some (.ref (A + n)), a6, b6, some (.ref a), some (.int bits), none] h10 := by
    have sm : sml v9 = true := uf v0
    have c1 : 0 ≤ v9 * ((n : Int) - 1) := by rcases v0 with e | e <;> subst e <;> omega
    have c2 : v9 * ((n : Int) - 1) ≤ 1000 := by rcases v0 with e | e <;> subst e <;> omega
    refine ⟨_, rfl, Int.le_of_lt (Int.pow_pos (by omega)), ?_⟩
    simp [d9, sm, c1, c2]
  obtain ⟨y10, ey10⟩ := W10.hd
  have d10 := aT ey10 (show (0 : Int) < 3 by omega) (by simp)
  obtain ⟨h11, hh11⟩ : ∃ h11, h11 = h10.set B (.lst [.int (y10 / 3)]) := ⟨_, rfl⟩
  rw [← hh11] at d10
  have W11 : WL h A B n R h11 := by rw [hh11]; exact W10.setB hB _
  have bar11 : h11[a]? = some (.lst (bs.map .int)) := by rw [hh11, List.getElem?_set_ne (by omega)]; exact bar10
  have s11 : ∃ (bits' : Int) (h12 : Hd), 0 ≤ bits' ∧ sIf (tE (ao oEq (aw ar (af (aa 0) (af (fC (.int 3)) av))) (fC (.int 0)))) (aH (gN 8) (aw ar (af (aa 0) (af (ao DF (fC (.int 2)) (fC (.int 30))) av)))) bS [some (.ref B), some (.int n), some (.int r), some (.int gg), some (.ref (A + n)), a6, b6, some (.ref a), some (.int bits), none] h10
      = .nx [some (.ref B), some (.int n), some (.int r), some (.int gg), some (.ref (A + n)), a6, b6, some (.ref a), some (.int bits'), none] h12 ∧ WL h A B n R h12 ∧ h12[a]? = some (.lst (bs.map .int)) := by
    by_cases e : y10 % 3 = 0
    · obtain ⟨y11, ey11⟩ := W11.hd
      have d11 := aT ey11 (m := 2 ^ 30) (by simp) (by simp)
      simp only [Int.reducePow] at d11
      have sm : sml 2 = true := by decide
      have bt := Int.emod_nonneg y11 (show (1073741824 : Int) ≠ 0 by omega)
      rw [e] at d10
      have eq0 : ∀ g, oEq (.int 0) (.int 0) g = .ok (.bl true) g := fun _ => rfl
      exact ⟨y11 % 1073741824, h11.set B (.lst [.int (y11 / 1073741824)]), bt, by simp [-oEq, -eqG, d10, eq0, sm, d11], W11.setB hB _, by rw [List.getElem?_set_ne (by omega)]; exact bar11⟩
    · have eq0 : ∀ (x y : Int) g, oEq (.int x) (.int y) g = .ok (.bl (decide (x = y))) g := fun _ _ _ => rfl
      exact ⟨bits, h11, bt0, by simp [-oEq, -eqG, d10, e, eq0], W11, bar11⟩
  obtain ⟨bits', h12, bt1, s11, W12, bar12⟩ := s11
  obtain ⟨st, hst⟩ : ∃ st : List Int, st = (List.range n).map fun k => bits' / 2 ^ k % 2 := ⟨_, rfl⟩
  have cs : cz none ((List.range n).map fun k : Nat => D.int k) (gN 0) [] (ao nZ (ao B5 (aa 1) (aa 0)) (fC (.int 1))) ((List.range n).map fun k : Nat => D.int k) [none, some (.int bits')] h12 = .ok (st.map D.int) h12 := by
    have := bM (g := none) (all := (List.range n).map fun k : Nat => D.int k) (tg := gN 0) (cs := []) (e := ao nZ (ao B5 (aa 1) (aa 0)) (fC (.int 1))) (h := h12) (I := fun σ => ∃ a, σ = [a, some (.int bits')]) (fun _ => true) (fun d => match d with | .int k => .int (bits' / 2 ^ k.toNat % 2) | _ => .non) trivial (xs := (List.range n).map fun k : Nat => D.int k) (σ := [none, some (.int bits')]) (by
      rintro x hx σ ⟨a, rfl⟩
      obtain ⟨i, hi, rfl⟩ := List.mem_map.mp hx
      refine ⟨_, rfl, ⟨_, rfl⟩, rfl, fun _ => ?_⟩
      have nn : 0 ≤ bits' / 2 ^ i := Int.ediv_nonneg bt1 (Int.le_of_lt (Int.pow_pos (by omega)))
      simp [nn]) ⟨_, rfl⟩
    rw [this, List.filter_eq_self.mpr (by simp), hst, List.map_map, List.map_map]
    rfl
  have s12 : aH (gN 9) (cK (bO 1 [8] (bZ (aa 1)) (gN 0) [] (ao nZ (ao B5 (aa 1) (aa 0)) (fC (.int 1))))) [some (.ref B), some (.int n), some (.int r), some (.int gg), some (.ref (A + n)), a6, b6, some (.ref a), some (.int bits'), none] h12
      = .nx [some (.ref B), some (.int n), some (.int r), some (.int gg), some (.ref (A + n)), a6, b6, some (.ref a), some (.int bits'), some (aB st)] h12 := by
    generalize (ao nZ (ao B5 (aa 1) (aa 0)) (fC (.int 1))) = E at cs ⊢
    simp [z1, z2, cs, aB]
  have ct : cz (some (A + n)) ((List.range n).map fun i => .ref (A + i)) (gN 0) [] (cK (i0 (aa 0))) ((List.range n).map fun i => .ref (A + i)) [none] h12
      = .ok (((List.range n).map fun i => iP (R i)).map kD) h12 := by
    have := bM (g := some (A + n)) (all := (List.range n).map fun i => .ref (A + i)) (tg := gN 0) (cs := []) (e := cK (i0 (aa 0))) (h := h12) (I := fun σ => ∃ a, σ = [a]) (fun _ => true)
      (fun d => match d with | .ref k => kD (iP (R (k - A))) | _ => .non) W12.tis (xs := (List.range n).map fun i => .ref (A + i)) (σ := [none]) (by
        rintro x hx σ ⟨a, rfl⟩
        obtain ⟨i, hi, rfl⟩ := List.mem_map.mp hx
        have hi := List.mem_range.mp hi
        refine ⟨_, rfl, ⟨_, rfl⟩, rfl, fun _ => ?_⟩
        have t := W12.ti i hi
        have so := wB (O6.nd i) (by have := O6.len i; omega)
        simp only [List.set_cons_zero, cK, i0, bP, aa, slot, List.getElem?_cons_zero, aQ, t, so, kD, Nat.add_sub_cancel_left]) ⟨_, rfl⟩
    rw [this, List.filter_eq_self.mpr (by simp), List.map_map, List.map_map]
    congr 1
    apply List.map_congr_left
    intro i _
    simp
  obtain ⟨w, hw⟩ : ∃ w : Web, w = ⟨(List.range n).map fun i => iP (R i), bs, List.replicate n none⟩ := ⟨_, rfl⟩
  have t12 := W12.tis
  have s13 : bi (eW (af (eW (af (cK (bO 1 [] (db (aa 4)) (gN 0) [] (cK (i0 (aa 0))))) (af (cK (lOf (aa 7))) (af (ao Bh (eW (af (fC .non) av)) (aa 1)) av)))) (af (aa 9) av))) [some (.ref B), some (.int n), some (.int r), some (.int gg), some (.ref (A + n)), a6, b6, some (.ref a), some (.int bits'), some (aB st)] h12
      = .rt (.tup [w.enc, aB st]) h12 := by
    have rp := Bz n
    have n2 : (2 : Int) ≤ n := by omega
    have n2' : 2 ≤ n := by omega
    have n1000 : n ≤ 1000 := by omega
    generalize (cK (i0 (aa 0))) = E at ct ⊢
    simp [t12, ct, bar12, SZ, n2, n2', n1000, rp, hw, Web.enc]
  have lA : h12.length ≥ A := by have := (List.getElem?_eq_some_iff.mp W12.tis).1; omega
  obtain ⟨h', g', hh', lh'⟩ : ∃ h' g', h12 = h' ++ g' ∧ h'.length = h.length := ⟨h12.take A, h12.drop A, (List.take_append_drop A h12).symm, by simp; omega⟩
  have old' : ∀ j, j < h.length → j ≠ B → h'[j]? = h[j]? := fun j hj nb => by
    have := W12.old j (by omega) nb
    rw [hh', List.getElem?_append_left (by omega)] at this
    exact this
  have pu : ∀ l : List Int, dn (l.map .int) = true := fun l => by
    induction l with
    | nil => rfl
    | cons x l ih => simp [dn, pure?, ih]
  have fin : letGo h (.ok (.tup [w.enc, aB st]) h12) = .ok (.tup [w.enc, aB st]) h' := by
    rw [hh']
    refine su ?_ lh' fun j c hj e => ?_
    · have p1 : ∀ l : List (Nat × Int), dn (l.map cr) = true := fun l => by
        induction l with
        | nil => rfl
        | cons x l ih => simp [dn, pure?, cr, ih]
      have p2 : ∀ l : List (List (Nat × Int)), dn (l.map kD) = true := fun l => by
        induction l with
        | nil => rfl
        | cons x l ih => simp [dn, pure?, kD, p1, ih]
      have p3 : ∀ l : List (Option Int), dn (l.map bF) = true := fun l => by
        induction l with
        | nil => rfl
        | cons x l ih => cases x <;> simp [dn, pure?, bF, ih]
      simp [pure?, dn, Web.enc, aB, p2, p3, pu]
    · rw [← hh'] at e
      by_cases nb : j = B
      · obtain ⟨y, ey⟩ := W12.hd
        rw [nb, ey] at e
        cases e
        exact .inr rfl
      · rw [W12.old j (by omega) nb] at e
        exact .inl e
  have tg : ∀ i, i < n → w.ties.getD i [] = iP (R i) := fun i hi => by rw [hw]; simp [List.getD, hi]
  have tn : ∀ i, ¬ i < n → w.ties.getD i [] = [] := fun i hi => by rw [hw]; simp [List.getD, hi]
  refine ⟨n, w, st, h', ⟨?_, hn'.down, n30, ⟨by rw [hw]; simp, by rw [hw]; exact lb9, by rw [hw]; simp, fun r hr p hp => ?_, by omega⟩, fun x hx => ?_, ⟨by rw [hst]; simp, fun x hx => ?_, fun i x e => ?_⟩, fun f s => ?_, fun i p hp => ?_, fun i p hp => ?_, lh', old', fun x hx => ?_, fun i hi => ?_, fun i hi => ?_⟩⟩
  · have st0 : ([D.ref B].map some ++ List.replicate (10 - [D.ref B].length) none : Sd) = [some (.ref B), none, none, none, none, none, none, none, none, none] := rfl
    unfold eP a8 runB
    rw [if_pos (show [D.ref B].length = 1 from rfl), st0, bA s1, bA s2, bA s3, bA s4, bA s5, bA s6, bA s8, bA s9, bA s11, bA s12, s13]
    exact fin
  · rw [hw] at hr
    obtain ⟨i, _, rfl⟩ := List.mem_map.mp hr
    exact O6.lt i p (jx hp)
  · rw [hw] at hx
    exact .inl (List.eq_of_mem_replicate hx)
  · rw [hst] at hx
    obtain ⟨k, _, rfl⟩ := List.mem_map.mp hx
    omega
  · rw [hw] at e
    have := List.eq_of_mem_replicate (List.mem_of_getElem? e)
    cases this
  · have : ∀ f s m, m ≤ n → S2 (fun i => w.ties.getD i []) f s m = S2 R f s m := fun f s m => by
      induction m with
      | zero => intro _; rfl
      | succ m ih =>
        intro hm
        rw [S2, S2, ih (by omega), tg m (by omega), lM]
    rw [this f s n (Nat.le_refl _), this s f n (Nat.le_refl _)]
    exact O6.sym f s
  · by_cases hi : i < n
    · rw [tg i hi] at hp; exact O6.ns i p (jx hp)
    · rw [tn i hi] at hp; cases hp
  · by_cases hi : i < n
    · rw [tg i hi] at hp; exact (O6.wt i p (jx hp)).1
    · rw [tn i hi] at hp; cases hp
  · rw [hw] at hx
    exact List.eq_of_mem_replicate hx
  · have : w.bars.getD i 0 ∈ bs := by
      rw [hw]
      simp only [List.getD]
      rw [List.getElem?_eq_getElem (show i < bs.length by omega)]
      exact List.getElem_mem _
    exact ob9 _ this
  · rw [tg i hi]
    have e : yG (iP (R i)) = yG (R i) := lM _ _
    rw [e]
    have := rs i
    omega
end Fm
set_option linter.all false
namespace Fm
def wC (sd k j : Int) : Int := (((((sd + 31 * k + j * j + 7) * 48271 % 2147483629 + 5) * ((sd + 31 * k + j * j + 7) * 48271 % 2147483629 + j + 3) % 2147483587) + k) * 69621 % 2147483563)
def wfv (sd k : Int) : Nat → Int
  | 0 => 0
  | i + 1 => wfv sd k i * 2147483563 + wC sd k i * (wC sd k i + 11) % 2147483549
theorem Ci (L : D) (k sd : Int) (h : Hd) (M : Nat) (hM : M ≤ 9) (fv : Nat → Int) (f0 : fv 0 = 0) (fs : ∀ i, fv (i + 1) = fv i * 2147483563 + wC sd k i * (wC sd k i + 11) % 2147483549) : ∃ a b, cV none ((List.range M).map fun k : Nat => D.int k) (gN 4) fB ((List.range M).map fun k : Nat => D.int k) [some L, some (.int k), some (.int sd), some (.int 0), none, none] h = .nx [some L, some (.int k), some (.int sd), some (.int (fv M)), a, b] h := by
  obtain ⟨σ', h', h1, h2, a, b, h3⟩ := cg (P := fun i σ h' => h' = h ∧ ∃ a b, σ = [some L, some (.int k), some (.int sd), some (.int (fv i)), a, b]) (g := none) (k := 0)
      (all := (List.range M).map fun k : Nat => D.int k) (fun _ _ _ _ => trivial)
      (xs := (List.range M).map fun k : Nat => D.int k) (tg := gN 4) (σ := [some L, some (.int k), some (.int sd), some (.int 0), none, none]) (h := h)
      (b := fB) (by
      rintro i x σ h0 hx ⟨rfl, a, b, rfl⟩
      obtain ⟨hi, rfl⟩ := cM hx
      rw [Nat.zero_add]
      have ew := fs i
      generalize fv (i + 1) = fv' at ew ⊢
      generalize fv i = fw at ew ⊢
      have j0 : (0 : Int) ≤ (i : Int) := by omega
      have j1 : (i : Int) < 9 := by omega
      clear hx hi
      generalize ((i : Nat) : Int) = j at j0 j1 ew ⊢
      have e1 : sml 31 = true := dM (by omega) (by omega)
      have e2 : sml 48271 = true := dM (by omega) (by omega)
      have e3 : sml j = true := dM (by omega) (by omega)
      have e4 : sml 69621 = true := dM (by omega) (by omega)
      have e5 : sml 2147483563 = true := dM (by omega) (by omega)
      have e6 : ∀ x : Int, sml (x % 2147483629 + 5) = true := fun x => dM (by have := Int.emod_nonneg x (show (2147483629 : Int) ≠ 0 by omega); omega) (by have := Int.emod_lt_of_pos x (show (0 : Int) < 2147483629 by omega); omega)
      have e7 : ∀ x : Int, sml (x % 2147483563) = true := fun x => dM (Int.emod_nonneg x (by omega)) (by have := Int.emod_lt_of_pos x (show (0 : Int) < 2147483563 by omega); omega)
      have q1 := b1l L k sd fw j a b h0 e1 e2 e3
      obtain ⟨n1, hn1⟩ : ∃ n1, n1 = (sd + 31 * k + j * j + 7) * 48271 % 2147483629 := ⟨_, rfl⟩
      have z1 := e6 ((sd + 31 * k + j * j + 7) * 48271)
      rw [← hn1] at q1 z1
      have q2 := b2l L k sd fw j n1 a b h0 z1
      obtain ⟨n2, hn2⟩ : ∃ n2, n2 = (n1 + 5) * (n1 + j + 3) % 2147483587 := ⟨_, rfl⟩
      rw [← hn2] at q2
      have q3 := b3l L k sd fw j n2 a b h0 e4
      obtain ⟨n3, hn3⟩ : ∃ n3, n3 = (n2 + k) * 69621 % 2147483563 := ⟨_, rfl⟩
      have z3 := e7 ((n2 + k) * 69621)
      rw [← hn3] at q3 z3
      have q4 := b4l L k sd fw j n3 a b h0 e5 z3
      have wn : wC sd k j = n3 := by unfold wC; rw [hn3, hn2, hn1]
      rw [wn] at ew
      rw [← ew] at q4
      refine ⟨_, rfl, [some L, some (.int k), some (.int sd), some (.int fv'), some (.int j), some (.int n3)], h0, ?_, rfl, _, _, rfl⟩
      show aC _ _ [some L, some (.int k), some (.int sd), some (.int fw), some (.int j), b] h0 = _
      rw [bA q1, bA q2, bA q3, q4]) ⟨rfl, _, _, by rw [f0]⟩
  have eM : 0 + ((List.range M).map fun k : Nat => D.int k).length = M := by simp
  rw [eM] at h3
  exact ⟨a, b, by rw [h1, h2, h3]⟩
theorem G1 (ns : List Int) (k : Int) (hk : 0 ≤ k ∧ k ≤ 1000) : ∃ v, ∀ h, cC [.lit (ns.map .int), .int k] h = .ok (.int v) h := by
  have seed : ∃ sd, (if 0 < (ns.length : Int) then (match atI (ns.map D.int) (k % ns.length) with | some (.int y) => some (y % 2147483647) | _ => none) else some 11) = some sd := by
    by_cases e : 0 < (ns.length : Int)
    · have h1 := Int.emod_nonneg k (show (ns.length : Int) ≠ 0 by omega)
      have h2 := Int.emod_lt_of_pos k e
      have h3 : (k % ns.length).toNat < ns.length := by omega
      have h4 := j5 (f := D.int) h3
      rw [show (((k % ns.length).toNat : Nat) : Int) = k % ns.length by omega] at h4
      exact ⟨_, by rw [if_pos e, h4]⟩
    · exact ⟨11, by rw [if_neg e]⟩
  obtain ⟨sd, hsd⟩ := seed
  obtain ⟨fv, f0, fs⟩ : ∃ fv : Nat → Int, fv 0 = 0 ∧ ∀ i, fv (i + 1) = fv i * 2147483563 + wC sd k i * (wC sd k i + 11) % 2147483549 := ⟨wfv sd k, by rw [wfv], fun i => by rw [wfv]⟩
  have lp := fun h => Ci (.lit (ns.map .int)) k sd h 9 (Nat.le_refl _) fv f0 fs
  generalize fv 9 = v at lp
  refine ⟨v, fun h => ?_⟩
  obtain ⟨a, b, h1⟩ := lp h
  by_cases e : 0 < (ns.length : Int)
  · rw [if_pos e] at hsd
    cases q : atI (ns.map D.int) (k % ns.length) with
    | none => rw [q] at hsd; cases hsd
    | some y =>
      cases y with
      | int y =>
        rw [q] at hsd
        have hsd : y % 2147483647 = sd := by simpa using hsd
        have e' : 0 < ns.length := by omega
        simp [cC, a8, runB, e, e', q, hsd, h1]
      | _ => rw [q] at hsd; cases hsd
  · rw [if_neg e] at hsd
    have hsd : 11 = sd := by simpa using hsd
    subst hsd
    have e' : ¬ 0 < ns.length := by omega
    simp [cC, a8, runB, e, e', h1]
theorem EG (ns : List Int) (k : Nat) (hk : k ≤ 1000) : ∃ v, ∀ h, aY [.lit (ns.map .int), .int k] h = .ok (.int v) h := by
  obtain ⟨v, hv⟩ := G1 ns k (by omega)
  by_cases e : k < ns.length
  · have h0 : 0 < ns.length := by omega
    have p0 := j5 (f := D.int) h0
    have pk := j5 (f := D.int) e
    rw [show ((0 : Nat) : Int) = 0 from rfl] at p0
    by_cases ev : ns[0] % 2 = 0
    · exact ⟨ns[k], fun h => by simp [aY, a8, runB, e, p0, pk, ev, peq, dep]⟩
    · exact ⟨v, fun h => by simp [aY, a8, runB, e, p0, pk, ev, peq, dep, hv]⟩
  · exact ⟨v, fun h => by simp [aY, a8, runB, e, hv]⟩
theorem wD (o : List Nat) (k p : Nat) : (az o).take k ++ [D.int (p : Nat)] ++ (az o).drop k = az (o.take k ++ [p] ++ o.drop k) := by
  simp [az, List.map_take, List.map_drop]
theorem kJ {o : List Nat} {k p q : Nat} : q ∈ o.take k ++ [p] ++ o.drop k ↔ q = p ∨ q ∈ o := by
  constructor
  · intro h
    rcases List.mem_append.mp h with h | h
    · rcases List.mem_append.mp h with h | h
      · exact .inr (List.mem_of_mem_take h)
      · simp at h; exact .inl h
    · exact .inr (List.mem_of_mem_drop h)
  · intro h
    rcases h with h | h
    · simp [h]
    · rw [← List.take_append_drop k o] at h
      rcases List.mem_append.mp h with h | h <;> simp [h]
end Fm
set_option linter.all false
namespace Fm
noncomputable def dc : Fn := a8 2 7 (aC (aH (gN 2) (bo (af (aw aY (af (aa 0) (af (fC (.int 31)) av))) av)))
    (aC (aH (gN 3) (bo av))
    (aC (gn (bZ (aa 1)) (gN 4) j8)
    (aC (aH (gN 5) (bo (af (aw aY (af (aa 0) (af (fC (.int 32)) av))) av)))
    (aC (gn (bZ (aw ar (af (aa 5) (af (fC (.int 31)) av)))) (gN 4) j7)
    (aC (sIf (tE (ao oEq (aw ar (af (aa 5) (af (fC (.int 3)) av))) (fC (.int 0)))) (aC (aH (gN 6) (aw ar (af (aa 5) (af (aa 1) av))))
    (aH (gN 3) (bo (bO 1 [6] (db (aa 3)) (gN 0) [(tE (ao oNe (aa 0) (aa 1)))] (aa 0))))) bS)
    (bi (aa 3))))))))
noncomputable abbrev j9 : SF := (aC (aH (gN 5) (ao dw (fC (.int 2)) (kr (bO 2 [3] (db (fAt (fAt (aa 0) (fC (.int 0))) (aa 4))) (gT [0, 1]) [] (ao dw (aa 1) (fAt (aa 2) (aa 0)))))))
    (sIf (jR (tE (ao mY (fAt (fAt (aa 0) (fC (.int 2))) (aa 4)) (fC .non))) (tE (ao oNe (aa 5) (fAt (fAt (aa 0) (fC (.int 1))) (aa 4))))) (pM (aa 3) (aa 4) (DG (ao oGt (aa 5) (fAt (fAt (aa 0) (fC (.int 1))) (aa 4))))) bS))
noncomputable def fE : Fn := a8 3 6 (aC (aH (gN 3) (bo (lOf (aa 1))))
    (aC (gn (db (aa 2)) (gN 4) j9)
    (bi (cK (lOf (aa 3))))))
noncomputable abbrev kK : SF := (aC (aH (gN 4) (ao cE (aa 4) (fC (.int 1))))
    (aC (aH (gN 1) (aa 5))
    (aH (gN 5) (aw fE (af (aa 0) (af (aa 1) (af (aa 2) av)))))))
noncomputable abbrev i7 : SF := (sIf (jR (tE (ao mY (fAt (fAt (aa 0) (fC (.int 2))) (aa 3)) (fC .non))) (tE (ao eS (aa 3) (aa 2)))) (bi (fC (.str [111, 114, 100, 101, 114]))) bS)
noncomputable def e9 : Fn := a8 3 6 (aC (gn (bZ (ei (lOf (aa 1)))) (gN 3) i7)
    (aC (aH (gN 4) (fC (.int 0)))
    (aC (aH (gN 5) (aw fE (af (aa 0) (af (aa 1) (af (aa 2) av)))))
    (aC (jV (tE (ao oNe (aa 5) (aa 1))) kK)
    (bi (eW (af (aa 4) (af (aa 1) av))))))))
noncomputable def b8 : Fn := a8 2 2 (pP (gl (tE (aw dI (af (aa 0) (af (aa 1) av))))) (jZ "NoStand") bS)
noncomputable def b9 : Fn := a8 2 3 (we (db (aw fA (af (aa 0) av))) (gN 2) (pP (tE (ao eS (aa 2) (aa 1))) (jZ "NoOrder") bS))
noncomputable def cx : Fn := a8 3 6 (aC (gX (aw b8 (fPl (af (aa 0) (af (aa 1) av)))))
    (aC (gX (aw b9 (fPl (af (aa 0) (af (aa 2) av)))))
    (aC (sPl (aH (gN 3) (fC (.int 0))))
    (aC (sPl (aH (gN 4) (aa 1)))
    (aC (sPl (aH (gN 5) (aw bV (af (aa 0) (af (aa 4) (af (aa 2) av))))))
    (aC (sPl (jV (tE (ao oNe (aa 5) (bo av))) fY))
    (sPl (bi (eW (af (aa 3) (af (aa 4) av)))))))))))
noncomputable def cN : Fn := a8 3 7 (aC (aH (gN 3) (fC .non))
    (aC (aH (gN 4) (fC .non))
    (aC (wm 7 3 ["NoStand", "NoOrder"] (aH (gN 4) (aw cx (fPl (af (aa 0) (af (aa 1) (af (aa 2) av)))))))
    (aC (sIf (tE (ao mY (aa 3) (fC .non))) (bi (aa 4)) bS)
    (aC (sIf (tE (m9 [("NoStand", false), ("NoOrder", false)] (aa 3))) (bi (fC (.str [111, 116, 104, 101, 114]))) bS)
    (aC (aH (gN 6) (bo (af (m9 [("NoStand", false), ("NoOrder", true)] (aa 3)) (af (m9 [("NoStand", true), ("NoOrder", false)] (aa 3)) av))))
    (aC (sIf (tOr (tE (ao oNe (ei (bO 1 [] (db (aa 6)) (gN 0) [(tE (aa 0))] (aa 0))) (fC (.int 1)))) (gl (tE (m9 [("NoStand", true), ("NoOrder", true)] (aa 3))))) (bi (fC (.str [111, 116, 104, 101, 114]))) bS)
    (bi (fIx (af (fC (.str [111, 114, 100, 101, 114])) (af (fC (.str [115, 116, 97, 110, 100])) av)) (sk (aa 6) (fC (.bl true))))))))))))
noncomputable abbrev BA : SF := (sIf (tOr (gl (tE (gr .int (aa 2)))) (tE (gr .bool (aa 2)))) (bi (fC (.bl false))) bS)
noncomputable def iw : Fn := a8 2 3 (aC (sIf (tE (gr .str (aa 1))) (bi (ao oEq (aa 0) (aa 1))) bS)
    (aC (sIf (tOr (gl (tE (gr .tuple (aa 0)))) (tOr (tE (ao oNe (ei (lOf (aa 0))) (fC (.int 2)))) (tOr (tE (ao oNe (aa 0) (aa 1))) (gl (tE (gr .tuple (fAt (aa 0) (fC (.int 1))))))))) (bi (fC (.bl false))) bS)
    (aC (gn (db (ao cE (eW (af (fAt (aa 0) (fC (.int 0))) av)) (fAt (aa 0) (fC (.int 1))))) (gN 2) BA)
    (bi (fC (.bl true))))))
noncomputable abbrev yL : SF := (aH (gT [1, 2, 3]) (aw jv (af (aa 0) av)))
noncomputable abbrev EH : SF := (aH (gN 4) (aw fD (af (aa 1) (af (aa 2) av))))
noncomputable abbrev EI : SF := (aH (gN 5) (aw dc (af (aa 0) (af (ei (lOf (aa 4))) av))))
noncomputable abbrev EJ : SF := (sIf (tE (ao oEq (aw ar (af (aa 3) (af (fC (.int 4)) av))) (fC (.int 1)))) (aC (aH (gT [1, 4]) (aw eP (af (bo (af (aw aY (af (aa 0) (af (fC (.int 33)) av))) av)) av)))
    (aC (aH (gN 6) (bo (D9 (ei (lOf (aa 4))))))
    (aH (gN 5) (fIx (af (aa 6) (af (bo (BY (aa 6))) (af (aw dc (af (aa 0) (af (ei (lOf (aa 4))) av))) av))) (aw ar (af (aa 3) (af (fC (.int 3)) av))))))) bS)
noncomputable abbrev yM : SF := (aH (gN 7) (bo (lOf (aa 5))))
noncomputable abbrev yN : SF := (aH (gN 8) (aw e9 (af (aa 1) (af (aa 4) (af (aa 5) av)))))
noncomputable abbrev yO : SF := (sIf (tOr (gl (tE (aw iw (af (aw cN (af (aa 1) (af (aa 4) (af (aa 7) av)))) (af (aa 8) av))))) (tE (ao oNe (aa 7) (aa 5)))) (bi (fC (.bl false))) bS)
noncomputable abbrev yP : SF := (aH (gN 9) (bo (af (bo (lOf (aa 4))) (af (gG (aa 4) pNo (pAt (fC (.int (-1))))) (af (fC .non) av)))))
noncomputable abbrev yQ : SF := (aH (gN 9) (bo (sf (aa 9) (bo (af (ao mF (gG (aa 4) pNo (pAt (fC (.int (-1))))) (eW (af (fC (.int 2)) av))) (af (ao mF (gG (aa 4) pNo (pAt (fC (.int (-1))))) (eW (af (fC .non) av))) av))))))
noncomputable abbrev yR : SF := (sIf (tE (ao oNe (aw cN (af (aa 1) (af (fAt (aa 9) (ao ie (aw cC (af (aa 0) (af (fC (.int 40)) av))) (fC (.int 5)))) (af (aa 5) av)))) (fC (.str [115, 116, 97, 110, 100])))) (bi (fC (.bl false))) bS)
noncomputable abbrev uj : SF := (aH (gN 10) (bo (sf (aa 5) (bo (bO 1 [5] (bZ (ei (lOf (aa 4)))) (gN 0) [(tE (ao eS (aa 0) (aa 1)))] (aa 0))))))
noncomputable abbrev uk : SF := (sIf (gl (tE (aw iw (af (aw cN (af (aa 1) (af (aa 4) (af (aa 10) av)))) (af (aw e9 (af (aa 1) (af (aa 4) (af (aa 10) av)))) av))))) (bi (fC (.bl false))) bS)
noncomputable abbrev ul : SF := (bi (aw iw (af (aw cN (af (aa 1) (af (aa 4) (af (aa 5) av)))) (af (aw e9 (af (aa 1) (af (aa 4) (af (aa 5) av)))) av))))
noncomputable def BB : Fn := a8 1 11 (aC yL (aC EH (aC EI (aC EJ (aC yM (aC yN (aC yO (aC yP (aC yQ (aC yR (aC uj (aC uk ul))))))))))))
end Fm
set_option linter.all false
namespace Fm
theorem um (x : Int) {m : Nat} (hm : 1 ≤ m) : ∃ q : Nat, x % m = q ∧ q < m := ⟨(x % m).toNat, by have := Int.emod_nonneg x (show (m : Int) ≠ 0 by omega); omega, by have := Int.emod_lt_of_pos x (show (0 : Int) < m by omega); omega⟩
theorem wE (ns : List Int) {n : Nat} (n1 : 1 ≤ n) (hn : n ≤ 30) (h : Hd) : ∃ (o : List Nat) (k : Nat) (g : Hd), dc [.lit (ns.map .int), .int n] h = .ok (.ref k) (h ++ g) ∧ (h ++ g)[k]? = some (.lst (az o)) ∧ (∀ p ∈ o, p < n) ∧ o.length ≤ 60 ∧ h.length ≤ k := by
  obtain ⟨A, hA⟩ : ∃ A, A = h.length := ⟨_, rfl⟩
  obtain ⟨v, hv⟩ := EG ns 31 (by omega)
  obtain ⟨u, hu⟩ := EG ns 32 (by omega)
  have hv : ∀ h, aY [.lit (ns.map .int), .int 31] h = .ok (.int v) h := hv
  have hu : ∀ h, aY [.lit (ns.map .int), .int 32] h = .ok (.int u) h := hu
  obtain ⟨S0, hS0⟩ : ∃ S0 : D, S0 = .lit (ns.map .int) := ⟨_, rfl⟩
  rw [← hS0] at hv hu ⊢
  obtain ⟨σ1, h1, q1, o1, a1, x1, e1, e2, l1, m1, m2⟩ := cg (P := fun i σ h' => ∃ (o : List Nat) (a : Int) (x : Option D), σ = [some S0, some (.int n), some (.ref A), some (.ref (A + 1)), x, none, none] ∧ h' = h ++ [.lst [.int a], .lst (az o)] ∧ o.length = i ∧ (∀ p ∈ o, p < i) ∧ ∀ p, p < i → p ∈ o) (g := none) (k := 0)
      (all := (List.range n).map fun k : Nat => D.int k) (fun _ _ _ _ => trivial)
      (xs := (List.range n).map fun k : Nat => D.int k) (tg := gN 4) (σ := [some S0, some (.int n), some (.ref A), some (.ref (A + 1)), none, none, none]) (h := h ++ [.lst [.int v], .lst []]) (b := j8) (by
      rintro i x σ h0 hx ⟨o, a, y, rfl, hh0, lo, m1, m2⟩
      obtain ⟨hi, rfl⟩ := cM hx
      rw [Nat.zero_add] at lo m1 m2 ⊢
      have gA : h0[A]? = some (.lst [.int a]) := by rw [hh0, hA]; simp
      have gB : h0[A + 1]? = some (.lst (az o)) := by rw [hh0, hA, List.getElem?_append_right (by omega)]; simp
      have d := aT gA (m := (i : Int) + 1) (by omega) (by simp; omega)
      have b0 := Int.emod_nonneg a (show (i : Int) + 1 ≠ 0 by omega)
      have b1 := Int.emod_lt_of_pos a (show (0 : Int) < (i : Int) + 1 by omega)
      have st1 : h0.set A (.lst [.int (a / ((i : Int) + 1))]) = h ++ [.lst [.int (a / ((i : Int) + 1))], .lst (az o)] := by rw [hh0, hA]; simp
      rw [st1] at d
      generalize a / ((i : Int) + 1) = a' at d st1
      obtain ⟨j, hj⟩ : ∃ j : Nat, (j : Int) = a % ((i : Int) + 1) := ⟨(a % ((i : Int) + 1)).toNat, by omega⟩
      rw [← hj] at d b1
      have g2 : (h ++ [bL.lst [.int a'], .lst (az o)])[A + 1]? = some (.lst (az o)) := by rw [hA, List.getElem?_append_right (by omega)]; simp
      have ll : (az o).length = i := by simp [az, lo]
      have c1 : (j : Int) ≤ (az o).length := by rw [ll]; omega
      have c2 : (az o).length < 1000000 := by rw [ll]; omega
      have c3 : (0 : Int) ≤ (j : Int) := by omega
      refine ⟨_, rfl, [some S0, some (.int n), some (.ref A), some (.ref (A + 1)), some (.int i), none, none], h ++ [.lst [.int a'], .lst (az (o.take j ++ [i] ++ o.drop j))], ?_, o.take j ++ [i] ++ o.drop j, a', _, rfl, rfl, by simp; omega, fun p hp => ?_, fun p hp => ?_⟩
      · have st2 : (h ++ [bL.lst [.int a'], .lst (az o)]).set (A + 1) (.lst ((az o).take j ++ [.int (i : Nat)] ++ (az o).drop j)) = h ++ [.lst [.int a'], .lst (az (o.take j ++ [i] ++ o.drop j))] := by
          rw [wD, hA, List.set_append_right _ _ (by omega)]; simp
        generalize az (o.take j ++ [i] ++ o.drop j) = E2 at st2 ⊢
        rw [List.append_assoc] at st2
        simp only [List.singleton_append] at st2
        generalize az o = E1 at *
        have c1' : j ≤ E1.length := by omega
        simp [gB, d, g2, c1', c2, SZ, st2]
      · rcases kJ.mp hp with e | e
        · omega
        · have := m1 p e; omega
      · exact kJ.mpr (by
          by_cases e : p = i
          · exact .inl e
          · exact .inr (m2 p (by omega)))) ⟨[], v, none, rfl, rfl, rfl, by simp, by omega⟩
  have e0 : 0 + ((List.range n).map fun k : Nat => D.int k).length = n := by simp
  rw [e0] at l1 m1 m2
  obtain ⟨h2, hh2⟩ : ∃ h2, h2 = h1 ++ [bL.lst [.int u]] := ⟨_, rfl⟩
  have hh2' : h2 = h ++ [.lst [.int a1], .lst (az o1), .lst [.int u]] := by rw [hh2, e2]; simp
  have gC : h2[A + 2]? = some (.lst [.int u]) := by rw [hh2', hA, List.getElem?_append_right (by omega)]; simp
  have dC := aT gC (m := 31) (by omega) (by simp)
  have c0 := Int.emod_nonneg u (show (31 : Int) ≠ 0 by omega)
  have c1 := Int.emod_lt_of_pos u (show (0 : Int) < 31 by omega)
  obtain ⟨M, hM⟩ : ∃ M : Nat, (M : Int) = u % 31 := ⟨(u % 31).toNat, by omega⟩
  have st3 : h2.set (A + 2) (.lst [.int (u / 31)]) = h ++ [.lst [.int a1], .lst (az o1), .lst [.int (u / 31)]] := by rw [hh2', hA, List.set_append_right _ _ (by omega)]; simp
  rw [← hM, st3] at dC
  obtain ⟨σ4, h4, q4, o4, b4, x4, e4, e5, l4, m3, m4⟩ := cg (P := fun i σ h' => ∃ (o : List Nat) (b : Int) (x : Option D), σ = [some S0, some (.int n), some (.ref A), some (.ref (A + 1)), x, some (.ref (A + 2)), none] ∧ h' = h ++ [.lst [.int a1], .lst (az o), .lst [.int b]] ∧ o.length = n + i ∧ (∀ p ∈ o, p < n) ∧ ∀ p, p < n → p ∈ o) (g := none) (k := 0)
      (all := (List.range M).map fun k : Nat => D.int k) (fun _ _ _ _ => trivial)
      (xs := (List.range M).map fun k : Nat => D.int k) (tg := gN 4) (σ := [some S0, some (.int n), some (.ref A), some (.ref (A + 1)), x1, some (.ref (A + 2)), none]) (h := h ++ [.lst [.int a1], .lst (az o1), .lst [.int (u / 31)]]) (b := j7) (by
      rintro i x σ h0 hx ⟨o, b, y, rfl, hh0, lo, m1, m2⟩
      obtain ⟨hi, rfl⟩ := cM hx
      rw [Nat.zero_add] at lo ⊢
      have gB : h0[A + 1]? = some (.lst (az o)) := by rw [hh0, hA, List.getElem?_append_right (by omega)]; simp
      have gC : h0[A + 2]? = some (.lst [.int b]) := by rw [hh0, hA, List.getElem?_append_right (by omega)]; simp
      have ll : (az o).length = n + i := by simp [az, lo]
      have d := aT gC (m := ((n + i : Nat) : Int) + 1) (by omega) (by simp; omega)
      have b0 := Int.emod_nonneg b (show ((n + i : Nat) : Int) + 1 ≠ 0 by omega)
      have b1 := Int.emod_lt_of_pos b (show (0 : Int) < ((n + i : Nat) : Int) + 1 by omega)
      have st1 : h0.set (A + 2) (.lst [.int (b / (((n + i : Nat) : Int) + 1))]) = h ++ [.lst [.int a1], .lst (az o), .lst [.int (b / (((n + i : Nat) : Int) + 1))]] := by rw [hh0, hA, List.set_append_right _ _ (by omega)]; simp
      rw [st1] at d
      generalize b / (((n + i : Nat) : Int) + 1) = b' at d st1
      obtain ⟨j, hj⟩ : ∃ j : Nat, (j : Int) = b % (((n + i : Nat) : Int) + 1) := ⟨(b % (((n + i : Nat) : Int) + 1)).toNat, by omega⟩
      rw [← hj] at d b1
      have gC2 : (h ++ [bL.lst [.int a1], .lst (az o), .lst [.int b']])[A + 2]? = some (.lst [.int b']) := by rw [hA, List.getElem?_append_right (by omega)]; simp
      have n0 : (0 : Int) < n := by omega
      have d' := aT gC2 n0 (by simp; omega)
      have b2 := Int.emod_nonneg b' (show (n : Int) ≠ 0 by omega)
      have b3 := Int.emod_lt_of_pos b' n0
      have st2 : (h ++ [bL.lst [.int a1], .lst (az o), .lst [.int b']]).set (A + 2) (.lst [.int (b' / n)]) = h ++ [.lst [.int a1], .lst (az o), .lst [.int (b' / n)]] := by rw [hA, List.set_append_right _ _ (by omega)]; simp
      rw [st2] at d'
      obtain ⟨p, hp⟩ : ∃ p : Nat, (p : Int) = b' % n := ⟨(b' % n).toNat, by omega⟩
      rw [← hp] at d' b3
      generalize b' / n = b'' at d'
      have g3 : (h ++ [bL.lst [.int a1], .lst (az o), .lst [.int b'']])[A + 1]? = some (.lst (az o)) := by rw [hA, List.getElem?_append_right (by omega)]; simp
      have c1 : (j : Int) ≤ (az o).length := by rw [ll]; omega
      have c2 : (az o).length < 1000000 := by rw [ll]; omega
      refine ⟨_, rfl, [some S0, some (.int n), some (.ref A), some (.ref (A + 1)), some (.int i), some (.ref (A + 2)), none], h ++ [.lst [.int a1], .lst (az (o.take j ++ [p] ++ o.drop j)), .lst [.int b'']], ?_, o.take j ++ [p] ++ o.drop j, b'', _, rfl, rfl, by simp; omega, fun q hq => ?_, fun q hq => ?_⟩
      · have st4 : (h ++ [bL.lst [.int a1], .lst (az o), .lst [.int b'']]).set (A + 1) (.lst ((az o).take j ++ [.int (p : Nat)] ++ (az o).drop j)) = h ++ [.lst [.int a1], .lst (az (o.take j ++ [p] ++ o.drop j)), .lst [.int b'']] := by
          rw [wD, hA, List.set_append_right _ _ (by omega)]; simp
        generalize az (o.take j ++ [p] ++ o.drop j) = E2 at st4 ⊢
        rw [List.append_assoc] at st4
        simp only [List.singleton_append] at st4
        rw [← ll] at d
        generalize az o = E1 at *
        have c1' : j ≤ E1.length := by omega
        simp [gB, d, d', g3, c1', c2, SZ, st4]
      · rcases kJ.mp hq with e | e
        · omega
        · exact m1 q e
      · exact kJ.mpr (.inr (m2 q hq))) ⟨o1, u / 31, x1, rfl, rfl, by omega, m1, m2⟩
  have e6 : 0 + ((List.range M).map fun k : Nat => D.int k).length = M := by simp
  rw [e6] at l4
  have z1 : (n : Int) ≤ 1000000 := by omega
  have z2 : -1000000 ≤ (n : Int) := by omega
  have z3 : (M : Int) ≤ 1000000 := by omega
  have z4 : -1000000 ≤ (M : Int) := by omega
  have s1 : aH (gN 2) (bo (af (aw aY (af (aa 0) (af (fC (.int 31)) av))) av)) [some S0, some (.int n), none, none, none, none, none] h = .nx [some S0, some (.int n), some (.ref A), none, none, none, none] (h ++ [.lst [.int v]]) := by simp [hv, SZ, hA]
  have s2 : aH (gN 3) (bo av) [some S0, some (.int n), some (.ref A), none, none, none, none] (h ++ [.lst [.int v]]) = .nx [some S0, some (.int n), some (.ref A), some (.ref (A + 1)), none, none, none] (h ++ [.lst [.int v], .lst []]) := by simp [SZ, hA]
  have s3 : gn (bZ (aa 1)) (gN 4) j8 [some S0, some (.int n), some (.ref A), some (.ref (A + 1)), none, none, none] (h ++ [.lst [.int v], .lst []]) = .nx [some S0, some (.int n), some (.ref A), some (.ref (A + 1)), x1, none, none] h1 := by
    rw [e1] at q1
    simp [z1, z2, q1]
  have s4 : aH (gN 5) (bo (af (aw aY (af (aa 0) (af (fC (.int 32)) av))) av)) [some S0, some (.int n), some (.ref A), some (.ref (A + 1)), x1, none, none] h1 = .nx [some S0, some (.int n), some (.ref A), some (.ref (A + 1)), x1, some (.ref (A + 2)), none] h2 := by
    have l1 : h1.length = A + 2 := by rw [e2, hA]; simp
    rw [hh2]
    simp [hu, SZ, l1]
  have s5 : gn (bZ (aw ar (af (aa 5) (af (fC (.int 31)) av)))) (gN 4) j7 [some S0, some (.int n), some (.ref A), some (.ref (A + 1)), x1, some (.ref (A + 2)), none] h2 = .nx [some S0, some (.int n), some (.ref A), some (.ref (A + 1)), x4, some (.ref (A + 2)), none] h4 := by
    rw [e4] at q4
    simp [dC, z3, z4, q4]
  obtain ⟨X, hX⟩ : ∃ X : Sd, X = [some S0, some (.int n), some (.ref A), some (.ref (A + 1)), x4, some (.ref (A + 2)), none] := ⟨_, rfl⟩
  have g4 : h4[A + 2]? = some (.lst [.int b4]) := by rw [e5]; exact cH hA 2
  have d6 := aT g4 (show (0 : Int) < 3 by decide) (by decide)
  obtain ⟨h5, hh5⟩ : ∃ h5, h5 = h4.set (A + 2) (.lst [.int (b4 / 3)]) := ⟨_, rfl⟩
  have hh5' : h5 = h ++ [.lst [.int a1], .lst (az o4), .lst [.int (b4 / 3)]] := by rw [hh5, e5, ud hA 2]; rfl
  rw [← hh5] at d6
  have l60 : o4.length ≤ 60 := by omega
  have s6 : ∃ (o : List Nat) (k : Nat) (g : Hd) (y : Option D), sIf (tE (ao oEq (aw ar (af (aa 5) (af (fC (.int 3)) av))) (fC (.int 0)))) (aC (aH (gN 6) (aw ar (af (aa 5) (af (aa 1) av))))
    (aH (gN 3) (bo (bO 1 [6] (db (aa 3)) (gN 0) [(tE (ao oNe (aa 0) (aa 1)))] (aa 0))))) bS X h4 = .nx [some S0, some (.int n), some (.ref A), some (.ref k), x4, some (.ref (A + 2)), y] (h ++ g) ∧ (h ++ g)[k]? = some (.lst (az o)) ∧ (∀ p ∈ o, p < n) ∧ o.length ≤ 60 ∧ A ≤ k := by
    by_cases c : b4 % 3 = 0
    · have n0 : (0 : Int) < n := by omega
      have g5 : h5[A + 2]? = some (.lst [.int (b4 / 3)]) := by rw [hh5']; exact cH hA 2
      have d7 := aT g5 n0 (by omega)
      obtain ⟨q, hq, _⟩ := um (b4 / 3) n1
      have st : h5.set (A + 2) (.lst [.int (b4 / 3 / n)]) = h ++ [.lst [.int a1], .lst (az o4), .lst [.int (b4 / 3 / n)]] := by rw [hh5', ud hA 2]; rfl
      rw [hq, st] at d7
      obtain ⟨h6, hh6⟩ : ∃ h6 : Hd, h6 = h ++ [.lst [.int a1], .lst (az o4), .lst [.int (b4 / 3 / n)]] := ⟨_, rfl⟩
      rw [← hh6] at d7
      have g6 : h6[A + 1]? = some (.lst (az o4)) := by rw [hh6]; exact cH hA 1
      have cp : cz (some (A + 1)) (az o4) (gN 0) [(tE (ao oNe (aa 0) (aa 1)))] (aa 0) (az o4) [none, some (.int q)] h6 = .ok (az (o4.filter fun p => p != q)) h6 := by
        have := bM (g := some (A + 1)) (all := az o4) (tg := gN 0) (cs := [(tE (ao oNe (aa 0) (aa 1)))]) (e := aa 0) (h := h6) (I := fun σ => ∃ a, σ = [a, some (.int q)]) (fun d => match d with | .int i => i.toNat != q | _ => false) (fun d => d) g6 (xs := az o4) (σ := [none, some (.int q)]) (by
          rintro x hx σ ⟨a, rfl⟩
          obtain ⟨p, hp, rfl⟩ := List.mem_map.mp hx
          refine ⟨_, rfl, ⟨_, rfl⟩, lJ (bu (aO rfl rfl ?_)), fun _ => rfl⟩
          rw [ir]
          show _ = Res.ok (D.bl (((p : Nat) : Int).toNat != q)) h6
          rw [Int.toNat_natCast]
          by_cases z : p = q
          · subst z; simp
          · have : ¬ ((p : Nat) : Int) = ((q : Nat) : Int) := fun y => z (Int.ofNat.inj y)
            simp [z, this]) ⟨_, rfl⟩
        rw [this, List.map_id', az, List.filter_map]
        rfl
      have lz : (az (o4.filter fun p => p != q)).length ≤ SZ := by
        have := List.length_filter_le (fun p => p != q) o4
        simp only [az, List.length_map]
        show _ ≤ 1000000
        omega
      have lh6 : h6 = h ++ [.lst [.int a1], .lst (az o4), .lst [.int (b4 / 3 / n)]] := hh6
      refine ⟨o4.filter fun p => p != q, A + 3, [.lst [.int a1], .lst (az o4), .lst [.int (b4 / 3 / n)], .lst (az (o4.filter fun p => p != q))], some (.int q), ?_, cH hA 3, fun p hp => m3 p (List.mem_filter.mp hp).1, Nat.le_trans (List.length_filter_le _ _) l60, Nat.le_add_right A 3⟩
      rw [hX]
      refine (pQ (bu (aO (aF (cB rfl rfl) d6) rfl (Eo c)))).trans ((aX (bE (aF (cB rfl rfl) d7))).trans ?_)
      have nw := gz (σ := [some S0, some (.int n), some (.ref A), some (.ref (A + 1)), x4, some (.ref (A + 2)), some (.int q)]) (r := bO 1 [6] (db (aa 3)) (gN 0) [(tE (ao oNe (aa 0) (aa 1)))] (aa 0)) (h := h6) (h0 := h) (g := [.lst [.int a1], .lst (az o4), .lst [.int (b4 / 3 / n)]]) hA (by rw [← lh6]; exact nk (kF rfl g6) cp) lz
      exact bE nw
    · refine ⟨o4, A + 1, [.lst [.int a1], .lst (az o4), .lst [.int (b4 / 3)]], none, ?_, cH hA 1, m3, l60, Nat.le_add_right A 1⟩
      rw [hX, ← hh5']
      exact eZ (bu (aO (aF (cB rfl rfl) d6) rfl (Ep c)))
  obtain ⟨o, k, g, y, s6, gk, r1, r2, r3⟩ := s6
  refine ⟨o, k, g, ?_, gk, r1, r2, by rw [← hA]; exact r3⟩
  rw [hX] at s6
  have s7 : bi (aa 3) [some S0, some (.int n), some (.ref A), some (.ref k), x4, some (.ref (A + 2)), y] (h ++ g) = .rt (.ref k) (h ++ g) := rfl
  have st : ([S0, D.int n].map some ++ List.replicate (7 - [S0, D.int n].length) none : Sd) = [some S0, some (.int n), none, none, none, none, none] := rfl
  unfold dc a8 runB
  rw [if_pos (by rfl), st, bA s1, bA s2, bA s3, bA s4, bA s5, bA s6, s7]
  exact n6
end Fm
set_option linter.all false
namespace Fm
theorem uo {n np : Nat} {b : SF} {ds : List D} {h h' : Hd} {σ σ' : Sd} {x : D} (hl : ds.length = np) (st : (ds.map some ++ List.replicate (n - ds.length) none : Sd) = σ) (e : b σ h = .exc x σ' h') : a8 np n b ds h = .exc x h' := by
  unfold a8 runB
  rw [if_pos hl, st, e]
  rfl
theorem BC {a b : SF} {σ σ' : Sd} {h h' : Hd} {x : D} (e : a σ h = .exc x σ' h') : aC a b σ h = .exc x σ' h' := by simp only [aC, e]
theorem yS {t : TF} {a b : SF} {σ : Sd} {h h' : Hd} (e : t σ h = .ok false h') : pP t a b σ h = b σ h' := by unfold pP; rw [e]; rfl
theorem BD {t : TF} {c : String} {b : SF} {σ : Sd} {h h' : Hd} (e : t σ h = .ok true h') : pP t (jZ c) b σ h = .exc (.exn c []) σ h' := by unfold pP; rw [e]; rfl
theorem ow {F : Fn} {r : LF} {σ : Sd} {h h1 h' : Hd} {ds : List D} {x : D} (a : r σ h = .ok ds h1) (b : F ds h1 = .exc x h') : aw F r σ h = .exc x h' := by
  show Res.bind _ _ = _; rw [a]; exact b
theorem BE {e : EF} {σ : Sd} {h h' : Hd} {x : D} (p : e σ h = .exc x h') : gX e σ h = .exc x σ h' := by show outE _ _ _ = _; rw [p]; rfl
theorem BF {g : Option Nat} {all : List D} {tg : GF} {b : SF} {x : D} {xs : List D} {σ σ' : Sd} {h h' : Hd} {d : D} (hh : gm g all h) (t : tg x σ = some σ') (e : b σ' h = .rt d h') : cV g all tg b (x :: xs) σ h = .rt d h' := by
  rw [cV, if_pos hh, t]; simp only [e]
theorem up {g : Option Nat} {all : List D} {tg : GF} {b : SF} {x : D} {xs : List D} {σ σ' σ'' : Sd} {h h' : Hd} (hh : gm g all h) (t : tg x σ = some σ') (e : b σ' h = .nx σ'' h') : cV g all tg b (x :: xs) σ h = cV g all tg b xs σ'' h' := by
  rw [cV, if_pos hh, t]; simp only [e]
theorem EK {g : Option Nat} {all : List D} {tg : GF} {b : SF} {x y : D} {xs : List D} {σ σ' σ'' : Sd} {h h' : Hd} (hh : gm g all h) (t : tg x σ = some σ') (e : b σ' h = .exc y σ'' h') : cV g all tg b (x :: xs) σ h = .exc y σ'' h' := by
  rw [cV, if_pos hh, t]; simp only [e]
def Cj (d : D) (h : Hd) : Prop := bI [d] h = .ok (.bl false) h
def ds8 : List D := [.int 2, .int (-1), .bl true, .bl false, .non, .str [49], .int (10 ^ 59), .tup [.int 0]]
theorem BG {d : D} {h : Hd} (e : dH [d] h = .ok (.bl false) h) : Cj d h :=
  (cU rfl rfl (bU (aF (aJ rfl (cB rfl rfl)) ((cU rfl rfl (bU (Br (jr (bu (aF (aJ rfl rfl) e)))))).trans aU)))).trans aU
theorem BH (b : Bool) (h : Hd) : Cj (.bl b) h := BG ((cU rfl rfl (bU (Br (ip (bu rfl) (cY (b := true) (bu rfl)))))).trans aU)
theorem nu {d : D} {h : Hd} (e : gr .int (aa 0) [some d] h = .ok (.bl false) h) : Cj d h := BG ((cU rfl rfl (bU (Br (jr (bu e))))).trans aU)
theorem JC {d : D} (hd : d ∈ ds8) (h : Hd) : Cj d h := by
  rcases hd with _ | ⟨_, _ | ⟨_, _ | ⟨_, _ | ⟨_, _ | ⟨_, _ | ⟨_, _ | ⟨_, _ | ⟨_, hd⟩⟩⟩⟩⟩⟩⟩⟩
  · exact cZ 2 h
  · exact cZ (-1) h
  · exact BH _ h
  · exact BH _ h
  · exact nu rfl
  · exact nu rfl
  · exact (cZ _ h).trans (by rw [decide_eq_false (show ¬ (10 : Int) ^ 59 ≤ 1 by decide), Bool.and_false])
  · exact nu rfl
  · cases hd
theorem G2 {v : Int} (hv : v = 0 ∨ v = 1) (h : Hd) : bI [.int v] h = .ok (.bl true) h := by
  rw [cZ]; rcases hv with rfl | rfl <;> rfl
def EL (w : Web) (i : Nat) (x : D) : Prop := ∃ v : Int, x = .int v ∧ (v = 0 ∨ v = 1) ∧ (w.stays[i]? = some none ∨ w.stays[i]? = some (some v))
def Bad (w : Web) (i : Nat) (x : D) (h : Hd) : Prop := Cj x h ∨ ∃ v z : Int, x = .int v ∧ (v = 0 ∨ v = 1) ∧ w.stays[i]? = some (some z) ∧ v ≠ z
theorem Gn {w : Web} {T x : D} {i : Nat} (g : EL w i x) (c : Option D) (h : Hd) : ∃ c', kG [some w.enc, some T, some (.int i), some x, c] h = .nx [some w.enc, some T, some (.int i), some x, c'] h := by
  obtain ⟨v, rfl, hv, hs⟩ := g
  have s1 : sIf (gl (tE (aw bI (af (aa 3) av)))) (bi (fC (.bl false))) bS [some w.enc, some T, some (.int i), some (.int v), c] h = .nx [some w.enc, some T, some (.int i), some (.int v), c] h := eZ (cY (bu (aF (aJ rfl rfl) (G2 hv h))))
  rcases hs with hs | hs
  · exact ⟨_, (aX s1).trans ((aX (bE (aF (aJ rfl (aJ rfl rfl)) (dU w h hs)))).trans (eZ (jr (bu (aO rfl rfl rfl)))))⟩
  · exact ⟨_, (aX s1).trans ((aX (bE (aF (aJ rfl (aJ rfl rfl)) (dU w h hs)))).trans (eZ (ip (bu (aO rfl rfl rfl)) (bu (aO rfl rfl (by rw [show bF (some v) = D.int v from rfl, ir, decide_eq_true rfl]; rfl))))))⟩
theorem Ck {w : Web} {T x : D} {i : Nat} {h : Hd} (b : Bad w i x h) (c : Option D) : kG [some w.enc, some T, some (.int i), some x, c] h = .rt (.bl false) h := by
  rcases b with no | ⟨v, z, rfl, hv, hs, ne⟩
  · exact og ((pQ (cY (bu (aF (aJ rfl rfl) no)))).trans (bU rfl))
  · have s1 : sIf (gl (tE (aw bI (af (aa 3) av)))) (bi (fC (.bl false))) bS [some w.enc, some T, some (.int i), some (.int v), c] h = .nx [some w.enc, some T, some (.int i), some (.int v), c] h := eZ (cY (bu (aF (aJ rfl rfl) (G2 hv h))))
    exact (aX s1).trans ((aX (bE (aF (aJ rfl (aJ rfl rfl)) (dU w h hs)))).trans ((pQ (ip (bu (aO rfl rfl rfl)) (bu (aO rfl rfl (by rw [show bF (some z) = D.int z from rfl, ir, decide_eq_false ne]; rfl))))).trans (bU rfl)))
theorem sG {w : Web} {T : D} {h : Hd} (all : List D) : ∀ (M : List D) (k : Nat) (a b c : Option D), (∀ i x, M[i]? = some x → EL w (k + i) x ∨ Bad w (k + i) x h) → (∃ i x, M[i]? = some x ∧ Bad w (k + i) x h) →
    cV none all (gT [2, 3]) kG (((List.range' k M.length).zip M).map fun p => D.tup [.int (p.1 : Nat), p.2]) [some w.enc, some T, a, b, c] h = .rt (.bl false) h
  | [], k, a, b, c, _, ⟨i, x, e, _⟩ => by cases i <;> cases e
  | x :: M, k, a, b, c, al, ⟨i, y, e, bd⟩ => by
    rw [List.length_cons, List.range'_succ, List.zip_cons_cons, List.map_cons]
    by_cases bx : Bad w k x h
    · exact BF (by trivial) rfl (Ck bx c)
    · have g : EL w k x := ((al 0 x rfl).resolve_right bx)
      obtain ⟨c', q⟩ := Gn (T := T) g c h
      refine (up (by trivial) rfl q).trans (sG all M (k + 1) _ _ _ (fun i x e => ?_) ?_)
      · have := al (i + 1) x e
        rwa [← Nat.add_assoc, Nat.add_right_comm] at this
      · cases i with
        | zero => cases e; exact absurd bd bx
        | succ i => exact ⟨i, y, e, by rwa [← Nat.add_assoc, Nat.add_right_comm] at bd⟩
theorem Go {w : Web} {n : Nat} (W : w.Ok n) {L : List D} (hl : L.length = n) {h : Hd} (al : ∀ i x, L[i]? = some x → EL w i x ∨ Bad w i x h) (ex : ∃ i x, L[i]? = some x ∧ Bad w i x h) : dI [w.enc, .tup L] h = .ok (.bl false) h := by
  have lp := sG (T := .tup L) (((List.range L.length).zip L).map fun p => D.tup [.int (p.1 : Nat), p.2]) L 0 none none none (fun i x e => by rw [Nat.zero_add]; exact al i x e) (by obtain ⟨i, x, e, b⟩ := ex; exact ⟨i, x, e, by rw [Nat.zero_add]; exact b⟩)
  rw [← List.range_eq_range'] at lp
  have s1 : sIf (tOr (gl (tE (gr .tuple (aa 1)))) (tE (ao oNe (ei (lOf (aa 1))) (aw dS (af (aa 0) av))))) (bi (fC (.bl false))) bS [some w.enc, some (.tup L), none, none, none] h = .nx [some w.enc, some (.tup L), none, none, none] h :=
    eZ (kE (cY (b := true) (bu rfl)) (bu (aO (eU (dG rfl rfl)) (aF (aJ rfl rfl) (i5 w h)) (by rw [ir, hl, W.t, decide_eq_true rfl]; rfl))))
  exact (cU rfl rfl ((aX s1).trans (og (lI rfl lp)))).trans aU
theorem sH {w : Web} {d : D} {h : Hd} (e : yk h .tuple d = some false) : dI [w.enc, d] h = .ok (.bl false) h := by
  have q : gr .tuple (aa 1) [some w.enc, some d, none, none, none] h = .ok (.bl false) h := by
    show Res.bind (.ok d h) _ = _
    simp only [aQ, e]
  exact (cU rfl rfl (og ((pQ (Il (cY (bu q)))).trans (bU rfl)))).trans aU
theorem Cl {w : Web} {n : Nat} (W : w.Ok n) {l : List D} (hl : l.length ≠ n) (h : Hd) : dI [w.enc, .tup l] h = .ok (.bl false) h := by
  have s1 : sIf (tOr (gl (tE (gr .tuple (aa 1)))) (tE (ao oNe (ei (lOf (aa 1))) (aw dS (af (aa 0) av))))) (bi (fC (.bl false))) bS [some w.enc, some (.tup l), none, none, none] h = .rt (.bl false) h :=
    (pQ (kE (cY (b := true) (bu rfl)) (bu (aO (eU (dG rfl rfl)) (aF (aJ rfl rfl) (i5 w h)) (by rw [ir, W.t, decide_eq_false (show ¬ (l.length : Int) = (n : Int) from fun z => hl (Int.ofNat.inj z))]; rfl))))).trans (bU rfl)
  exact (cU rfl rfl (og s1)).trans aU
abbrev NSx : D := .exn "NoStand" []
theorem sI {w : Web} {d : D} {h : Hd} (e : dI [w.enc, d] h = .ok (.bl true) h) : b8 [w.enc, d] h = .ok .non h :=
  (GZ rfl rfl (yS (cY (bu (aF (aJ rfl (aJ rfl rfl)) e))))).trans aU
theorem Cm {w : Web} {d : D} {h : Hd} (e : dI [w.enc, d] h = .ok (.bl false) h) : b8 [w.enc, d] h = .exc NSx h :=
  uo rfl rfl (BD (cY (bu (aF (aJ rfl (aJ rfl rfl)) e))))
theorem EM {w : Web} {n : Nat} (W : w.Ok n) {s : List Int} (F : cW w n s) {p : Nat} (hp : p < n) {d : D} {h : Hd} (b : Bad w p d h) : dI [w.enc, .tup ((s.map D.int).take p ++ [d] ++ (s.map D.int).drop (p + 1))] h = .ok (.bl false) h := by
  have hl : (s.map D.int).length = n := by rw [List.length_map, F.len]
  have lt : ((s.map D.int).take p).length = p := by rw [List.length_take, hl]; exact Nat.min_eq_left (Nat.le_of_lt hp)
  have good : ∀ i x, (s.map D.int)[i]? = some x → EL w i x := fun i x e => by
    have hi : i < s.length := by rw [← List.length_map (f := D.int)]; exact (List.getElem?_eq_some_iff.mp e).1
    rw [List.getElem?_map, List.getElem?_eq_getElem hi] at e
    cases e
    have h2 : i < w.stays.length := by rw [W.s, ← F.len]; exact hi
    refine ⟨s[i], rfl, F.op _ (List.getElem_mem hi), ?_⟩
    rw [List.getElem?_eq_getElem h2]
    cases c : w.stays[i] with
    | none => exact .inl rfl
    | some z =>
      have := F.st i z (by rw [List.getElem?_eq_getElem h2, c])
      rw [List.getElem?_eq_getElem hi] at this
      cases this
      exact .inr rfl
  refine Go W ?_ (fun i x e => ?_) ⟨p, d, ?_, b⟩
  · rw [List.length_append, List.length_append, lt, List.length_drop, hl]
    show p + 1 + (n - (p + 1)) = n
    exact Nat.add_sub_of_le hp
  · rw [List.append_assoc] at e
    by_cases i1 : i < p
    · rw [List.getElem?_append_left (by rw [lt]; exact i1), List.getElem?_take_of_lt i1] at e
      exact .inl (good i x e)
    · rw [List.getElem?_append_right (by rw [lt]; exact Nat.not_lt.mp i1), lt] at e
      by_cases i2 : i = p
      · rw [i2, Nat.sub_self] at e
        cases e
        rw [i2]; exact .inr b
      · obtain ⟨k, rfl⟩ := Nat.exists_eq_add_of_lt (Nat.lt_of_le_of_ne (Nat.not_lt.mp i1) (Ne.symm i2))
        rw [show p + k + 1 - p = k + 1 by omega] at e
        have e : ((s.map D.int).drop (p + 1))[k]? = some x := e
        rw [List.getElem?_drop] at e
        exact .inl (good _ x (by rw [show p + k + 1 = p + 1 + k by omega]; exact e))
  · rw [List.append_assoc, List.getElem?_append_right (by rw [lt]; exact Nat.le_refl _), lt, Nat.sub_self]; rfl
theorem BI {xs ys : List D} {h : Hd} (p : xs.length + ys.length ≤ SZ) : mF (.tup xs) (.tup ys) h = .ok (.tup (xs ++ ys)) h := by simp only [mF, if_pos p]
theorem BJ {a b : EF} {σ : Sd} {h h1 h2 : Hd} {n m : Nat} {l k : List D} (p : a σ h = .ok (.ref n) h1) (q : b σ h1 = .ok (.ref m) h2) (r : h2[n]? = some (.lst l)) (s : h2[m]? = some (.lst k)) (t : l.length + k.length ≤ SZ) : sf a b σ h = .ok (l ++ k) h2 := by
  simp only [sf, p, aQ, q, r, s, if_pos t]
theorem Gp {l : List D} {n : Nat} (hl : l.length = n) (n1 : 1 ≤ n) : cut l none (some (-1)) = l.take (n - 1) ∧ sIx l.length l.length (some (-1)) ≠ l.length := by
  have e : sIx n n (some (-1)) = n - 1 := by
    show (if (-1 : Int) < 0 then ((-1 : Int) + (n : Nat)).toNat else min (-1 : Int).toNat n) = n - 1
    rw [if_pos (by decide)]; omega
  have ne : n - 1 ≠ n := Nat.ne_of_lt (Nat.sub_lt n1 Nat.one_pos)
  rw [hl, e]
  refine ⟨?_, ne⟩
  unfold cut
  rw [hl, e]
  rfl
theorem ox {α : Type} {f : Sd → Hd → Res α} {σ : Sd} {h h' : Hd} {x : α} (p : f σ h = .ok x h') : fPl f σ h = .ok x h' := by unfold fPl; rw [p]; rfl
theorem BK {f : SF} {σ σ' : Sd} {h h' : Hd} (p : f σ h = .nx σ' h') : sPl f σ h = .nx σ' h' := by unfold sPl; rw [p]
theorem JD {f : SF} {σ : Sd} {h h' : Hd} {d : D} (p : f σ h = .rt d h') : sPl f σ h = .rt d h' := by unfold sPl; rw [p]
theorem BL {it : IF} {tg : GF} {b : SF} {σ : Sd} {h h1 : Hd} {l : List D} {g : Option Nat} {o : Out} (p : it σ h = .ok (l, g) h1) (q : cV g l tg b l σ h1 = o) : we it tg b σ h = o := by
  unfold we; rw [p]; exact q
theorem Gq {i : Nat} {e : EF} {σ : Sd} {h h' : Hd} {x : D} (p : e σ h = .exc x h') : aH (gN i) e σ h = .exc x σ h' := by show outE _ _ _ = _; rw [p]; rfl
theorem Iz {n i : Nat} {cs : List String} {b : SF} {σ σ' : Sd} {h h' : Hd} (p : b σ h = .nx σ' h') : wm n i cs b σ h = .nx σ' h' := by unfold wm; rw [p]
theorem IA {n i : Nat} {cs : List String} {b : SF} {σ σ' : Sd} {h h' : Hd} {c : String} (p : b σ h = .exc (.exn c []) σ' h') (q : c ∈ cs) : wm n i cs b σ h = .nx ((List.replicate n none).set i (some (.exn c []))) h' := by unfold wm; rw [p]; exact if_pos q
theorem uq {tb : List (String × Bool)} {a : EF} {σ : Sd} {h h1 : Hd} {c : String} {l : List D} {b : Bool} (p : a σ h = .ok (.exn c l) h1) (q : tb.lookup c = some b) : m9 tb a σ h = .ok (.bl b) h1 := by
  unfold m9; rw [p, aQ]; simp only [isX, q]
theorem Gr {x e : EF} {σ : Sd} {h h1 h2 : Hd} {n : Nat} {j : Bool} {l l0 : List D} {bs : List Bool} (p : x σ h = .ok (.ref n) h1) (q : h1[n]? = some (.lst l0)) (r : e σ h1 = .ok (.bl j) h2) (s : h2[n]? = some (.lst l)) (t : my l = some bs) (u : j ∈ bs ∧ bs.length ≤ 1000) : sk x e σ h = .ok (.int (bs.idxOf j : Nat)) h2 := by
  unfold sk; rw [p, aQ]; simp only [q, r, aQ, s, t, if_pos u]
theorem sJ (l : List Int) : pure? (aB l) = true := by
  unfold aB; simp only [pure?]
  induction l with
  | nil => rfl
  | cons x l ih => simp [dn, pure?, ih]
theorem nv {g : Option Nat} {all : List D} {tg : GF} {B : SF} {σ : Option D → Sd} {h : Hd} (hh : gm g all h) (ht : ∀ x a, tg x (σ a) = some (σ (some x))) : ∀ {xs : List D} (a : Option D), (∀ x ∈ xs, B (σ (some x)) h = .nx (σ (some x)) h) → ∃ a', cV g all tg B xs (σ a) h = .nx (σ a') h
  | [], a, _ => ⟨a, by rw [cV, if_pos hh]⟩
  | x :: xs, a, q => by
    obtain ⟨a', e⟩ := nv hh ht (xs := xs) (some x) fun y hy => q y (List.mem_cons_of_mem _ hy)
    exact ⟨a', (up hh (ht x a) (q x List.mem_cons_self)).trans e⟩
theorem oy {g : Option Nat} {all : List D} {tg : GF} {B : SF} {σ : Option D → Sd} {h : Hd} (bad : D → Prop) (hh : gm g all h) (ht : ∀ x a, tg x (σ a) = some (σ (some x))) (out : D → Out) (so : ∀ x, (∃ d, out x = .rt d h) ∨ ∃ y σ', out x = .exc y σ' h) :
    ∀ {xs : List D} (a : Option D), (∀ x ∈ xs, (bad x → B (σ (some x)) h = out x) ∧ (¬ bad x → B (σ (some x)) h = .nx (σ (some x)) h)) → (∃ x ∈ xs, bad x) → ∃ x, cV g all tg B xs (σ a) h = out x
  | [], a, _, ⟨x, hx, _⟩ => by cases hx
  | x :: xs, a, q, ⟨y, hy, by'⟩ => by
    by_cases bx : bad x
    · have e := (q x List.mem_cons_self).1 bx
      rcases so x with ⟨d, z⟩ | ⟨u, σ', z⟩
      · exact ⟨x, (BF hh (ht x a) (e.trans z)).trans z.symm⟩
      · exact ⟨x, (EK hh (ht x a) (e.trans z)).trans z.symm⟩
    · have hy' : y ∈ xs := (List.mem_cons.mp hy).resolve_left fun z => bx (z ▸ by')
      obtain ⟨u, e⟩ := oy bad hh ht out so (xs := xs) (some x) (fun z hz => q z (List.mem_cons_of_mem _ hz)) ⟨y, hy', by'⟩
      exact ⟨u, (up hh (ht x a) ((q x List.mem_cons_self).2 bx)).trans e⟩
theorem g9 {o : List Nat} {p : Nat} {h : Hd} {k : Nat} (hk : h[k]? = some (.lst (az o))) : eS (.int p) (.ref k) h = .ok (.bl (!decide (p ∈ o))) h := by
  have f : (az o).all cy = true := by simp [az]
  have a : (az o).any (fun z => eqF z (.int p)) = decide (p ∈ o) := by
    induction o with
    | nil => rfl
    | cons q o ih =>
      have e : (az (q :: o)).any (fun z => eqF z (.int p)) = ((((q : Nat) : Int) == ((p : Nat) : Int)) || (az o).any (fun z => eqF z (.int p))) := rfl
      have ih' : (az o).any (fun z => eqF z (.int p)) = decide (p ∈ o) := by
        clear ih hk f e
        induction o with
        | nil => rfl
        | cons r o ih2 =>
          show ((((r : Nat) : Int) == ((p : Nat) : Int)) || (az o).any (fun z => eqF z (.int p))) = _
          rw [ih2]
          by_cases z : r = p
          · subst z; simp
          · have : ¬ ((r : Nat) : Int) = ((p : Nat) : Int) := fun y => z (Int.ofNat.inj y)
            simp [this, Ne.symm z]
      rw [e, ih']
      by_cases z : q = p
      · subst z; simp
      · have : ¬ ((q : Nat) : Int) = ((p : Nat) : Int) := fun y => z (Int.ofNat.inj y)
        simp [this, Ne.symm z]
  simp only [eS, inL, gW, hk, cy, f, Bool.and_self, if_true, a]
end Fm
set_option linter.all false
namespace Fm
section
variable {w : Web} {n : Nat}
def wF (w : Web) (n : Nat) (o : List Nat) : Prop := ∀ p, p < n → w.stays.getD p none = none → p ∈ o
theorem wG {o : List Nat} (h : ¬ wF w n o) : ∃ p, p < n ∧ w.stays.getD p none = none ∧ p ∉ o := by
  apply Classical.byContradiction
  intro z
  exact h fun p hp hs => Classical.byContradiction fun y => z ⟨p, hp, hs, y⟩
theorem Cn (W : w.Ok n) (hn : n ≤ 1000) {o : List Nat} (ho : wF w n o) {h : Hd} {k : Nat} (hk : h[k]? = some (.lst (az o))) : b9 [w.enc, .ref k] h = .ok .non h := by
  obtain ⟨l, fo, fl, _⟩ := oq W hn h
  have hk2 := fW [bL.lst (w.stays.map bF), .lst (az l)] hk
  have hl : (h ++ [bL.lst (w.stays.map bF), .lst (az l)])[h.length + 1]? = some (.lst (az l)) := cH rfl 1
  obtain ⟨a, q⟩ := nv (g := some (h.length + 1)) (all := az l) (tg := gN 2) (B := pP (tE (ao eS (aa 2) (aa 1))) (jZ "NoOrder") bS) (σ := fun a => [some w.enc, some (.ref k), a]) (h := h ++ [bL.lst (w.stays.map bF), .lst (az l)]) hl (fun _ _ => rfl) (xs := az l) none (by
    intro x hx
    obtain ⟨p, hp, rfl⟩ := List.mem_map.mp hx
    have f := fl p hp
    exact yS (bu (aO rfl rfl ((g9 hk2).trans (by rw [decide_eq_true (ho p f.1 f.2)]; rfl)))))
  exact (GZ rfl rfl (BL (kF (aF (aJ rfl rfl) fo) hl) q)).trans (el rfl)
theorem Co (W : w.Ok n) (hn : n ≤ 1000) {o : List Nat} (ho : ¬ wF w n o) {h : Hd} {k : Nat} (hk : h[k]? = some (.lst (az o))) : ∃ g, b9 [w.enc, .ref k] h = .exc (.exn "NoOrder" []) (h ++ g) := by
  obtain ⟨l, fo, fl, fm⟩ := oq W hn h
  have hk2 := fW [bL.lst (w.stays.map bF), .lst (az l)] hk
  have hl : (h ++ [bL.lst (w.stays.map bF), .lst (az l)])[h.length + 1]? = some (.lst (az l)) := cH rfl 1
  obtain ⟨p, hp, hs, hno⟩ := wG ho
  obtain ⟨x, q⟩ := oy (g := some (h.length + 1)) (all := az l) (tg := gN 2) (B := pP (tE (ao eS (aa 2) (aa 1))) (jZ "NoOrder") bS) (σ := fun a => [some w.enc, some (.ref k), a]) (h := h ++ [bL.lst (w.stays.map bF), .lst (az l)]) (fun x => ∃ p : Nat, x = .int p ∧ p ∉ o) hl (fun _ _ => rfl)
    (fun x => .exc (.exn "NoOrder" []) [some w.enc, some (.ref k), some x] (h ++ [bL.lst (w.stays.map bF), .lst (az l)])) (fun x => .inr ⟨_, _, rfl⟩) (xs := az l) none (by
    intro x hx
    obtain ⟨p, hp, rfl⟩ := List.mem_map.mp hx
    refine ⟨fun ⟨q, e, hq⟩ => ?_, fun z => ?_⟩
    · have : p = q := by injection e with e; exact Int.ofNat.inj e
      subst this
      exact BD (bu (aO rfl rfl ((g9 hk2).trans (by rw [decide_eq_false hq]; rfl))))
    · exact yS (bu (aO rfl rfl ((g9 hk2).trans (by rw [decide_eq_true (Classical.byContradiction fun y => z ⟨p, rfl, y⟩)]; rfl))))) ⟨.int p, List.mem_map.mpr ⟨p, fm p hp hs, rfl⟩, p, rfl, hno⟩
  exact ⟨_, uo rfl rfl (BL (kF (aF (aJ rfl rfl) fo) hl) q)⟩
end
theorem wH {w : Web} {n : Nat} {s : List Int} (W : w.Ok n) (hn : n ≤ 1000) (S : dJ w) (F : cW w n s) {o : List Nat} (ho : ∀ p ∈ o, p < n) (hf : ∀ p, p < n → w.stays.getD p none = none → p ∈ o) (lo : o.length ≤ 500) {h : Hd} {k : Nat} (hk : h[k]? = some (.lst (az o)))
    {r : Nat} (hr : chL w 0 (ba w o s r) o = []) (hm : ∀ j, j < r → chL w 0 (ba w o s j) o ≠ []) : cx [w.enc, aB s, .ref k] h = .ok (.tup [.int r, aB (ba w o s r)]) h := by
  have hkl : k < h.length := (List.getElem?_eq_some_iff.mp hk).1
  have loop : ∀ (m j : Nat), j + m = r → ∀ (g : Hd) (c : Nat), (h ++ g)[c]? = some (.lst ((chL w 0 (ba w o s j) o).map du)) →
      ∃ g' c', cF (tE (ao oNe (aa 5) (bo av))) fY (m + 1) [some w.enc, some (aB s), some (.ref k), some (.int j), some (aB (ba w o s j)), some (.ref c)] (h ++ g) = .nx [some w.enc, some (aB s), some (.ref k), some (.int r), some (aB (ba w o s r)), some (.ref c')] (h ++ g') := by
    intro m
    induction m with
    | zero =>
      intro j hj g c hc
      have e : j = r := by omega
      subst e
      have t : tE (ao oNe (aa 5) (bo av)) [some w.enc, some (aB s), some (.ref k), some (.int j), some (aB (ba w o s j)), some (.ref c)] (h ++ g) = .ok false (h ++ (g ++ [.lst []])) := by
        have hc' : (h ++ (g ++ [bL.lst []]))[c]? = some (.lst ((chL w 0 (ba w o s j) o).map du)) := by rw [← List.append_assoc, List.getElem?_append_left (List.getElem?_eq_some_iff.mp hc).1]; exact hc
        have he : (h ++ (g ++ [bL.lst []]))[h.length + g.length]? = some (.lst []) := by rw [← List.append_assoc, List.getElem?_append_right (by simp)]; simp
        have := Bw hc' he
        rw [hr] at this
        simp [-oNe, -eqG, SZ, this]
      exact ⟨g ++ [.lst []], c, by rw [cF, t]⟩
    | succ m ih =>
      intro j hj g c hc
      have ne := hm j (by omega)
      obtain ⟨t, ht⟩ : ∃ t, t = ba w o s j := ⟨_, rfl⟩
      have Ft : cW w n t := by rw [ht]; exact dL W S F j
      have nx : ba w o s (j + 1) = a9 w t o := by rw [ba, ht]
      rw [← ht] at hc ne ⊢
      have hc' : (h ++ (g ++ [bL.lst []]))[c]? = some (.lst ((chL w 0 t o).map du)) := by rw [← List.append_assoc, List.getElem?_append_left (List.getElem?_eq_some_iff.mp hc).1]; exact hc
      have tt : tE (ao oNe (aa 5) (bo av)) [some w.enc, some (aB s), some (.ref k), some (.int j), some (aB t), some (.ref c)] (h ++ g) = .ok true (h ++ (g ++ [.lst []])) := by
        have he : (h ++ (g ++ [bL.lst []]))[h.length + g.length]? = some (.lst []) := by rw [← List.append_assoc, List.getElem?_append_right (by simp)]; simp
        have := Bw hc' he
        simp only [ne, decide_false] at this
        simp [-oNe, -eqG, SZ, this]
      have cd := yJ (n := n) hn (EA ho) hc' Ft.len
      rw [om] at cd
      have Fp : cW w n (a9 w t o) := fz W S o Ft
      have hk2 : (h ++ (g ++ [bL.lst []]))[k]? = some (.lst (az o)) := by rw [List.getElem?_append_left hkl]; exact hk
      have cs := oo W S Fp ho lo hk2
      obtain ⟨h2, hh2⟩ : ∃ h2, h2 = h ++ (g ++ [bL.lst []]) := ⟨_, rfl⟩
      obtain ⟨g3, hg3⟩ : ∃ g3, g3 = g ++ [bL.lst []] ++ [.lst ((a9 w (a9 w t o) o).map .int), .lst ((chL w 0 (a9 w t o) o).map du)] := ⟨_, rfl⟩
      have b : fY [some w.enc, some (aB s), some (.ref k), some (.int j), some (aB t), some (.ref c)] (h ++ (g ++ [.lst []])) = .nx [some w.enc, some (aB s), some (.ref k), some (.int ((j + 1 : Nat) : Int)), some (aB (a9 w t o)), some (.ref (h2.length + 1))] (h ++ g3) := by
        have e3 : h ++ g3 = h2 ++ [.lst ((a9 w (a9 w t o) o).map .int), .lst ((chL w 0 (a9 w t o) o).map du)] := by rw [hg3, hh2]; simp
        rw [e3, ← hh2]
        rw [← hh2] at cd cs
        have s1 : FC 3 GQ (fC (.int 1)) [some w.enc, some (aB s), some (.ref k), some (.int j), some (aB t), some (.ref c)] h2 = .nx [some w.enc, some (aB s), some (.ref k), some (.int ((j + 1 : Nat) : Int)), some (aB t), some (.ref c)] h2 := by simp
        have s2 : aH (gN 4) (aw er (af (aa 4) (af (aa 5) av))) [some w.enc, some (aB s), some (.ref k), some (.int ((j + 1 : Nat) : Int)), some (aB t), some (.ref c)] h2 = .nx [some w.enc, some (aB s), some (.ref k), some (.int ((j + 1 : Nat) : Int)), some (aB (a9 w t o)), some (.ref c)] h2 := by simp [cd]
        have s3 : aH (gN 5) (aw bV (af (aa 0) (af (aa 4) (af (aa 2) av)))) [some w.enc, some (aB s), some (.ref k), some (.int ((j + 1 : Nat) : Int)), some (aB (a9 w t o)), some (.ref c)] h2 = .nx [some w.enc, some (aB s), some (.ref k), some (.int ((j + 1 : Nat) : Int)), some (aB (a9 w t o)), some (.ref (h2.length + 1))] (h2 ++ [.lst ((a9 w (a9 w t o) o).map .int), .lst ((chL w 0 (a9 w t o) o).map du)]) := by simp [cs]
        unfold fY
        rw [bA s1, bA s2, s3]
      have hc3 : (h ++ g3)[h2.length + 1]? = some (.lst ((chL w 0 (ba w o s (j + 1)) o).map du)) := by
        rw [nx, hg3, ← List.append_assoc, ← hh2, List.getElem?_append_right (by omega)]; simp
      obtain ⟨g', c', q⟩ := ih (j + 1) (by omega) g3 (h2.length + 1) hc3
      rw [nx] at q
      refine ⟨g', c', ?_⟩
      rw [cF, tt]
      simp only [b]
      exact q
  have cs := oo W S F ho lo hk
  obtain ⟨g', c', q⟩ := loop r 0 (by omega) [.lst ((a9 w s o).map .int), .lst ((chL w 0 s o).map du)] (h.length + 1) (by rw [List.getElem?_append_right (by omega)]; simp [ba])
  have q := sx q (by simp)
  have s1 : gX (aw b8 (fPl (af (aa 0) (af (aa 1) av)))) [some w.enc, some (aB s), some (.ref k), none, none, none] h = .nx [some w.enc, some (aB s), some (.ref k), none, none, none] h := yD (aF (ox (cB rfl rfl)) (sI (Bs W F h)))
  have s2 : gX (aw b9 (fPl (af (aa 0) (af (aa 2) av)))) [some w.enc, some (aB s), some (.ref k), none, none, none] h = .nx [some w.enc, some (aB s), some (.ref k), none, none, none] h := yD (aF (ox (cB rfl rfl)) (Cn W hn hf hk))
  have s3 : aH (gN 3) (fC (.int 0)) [some w.enc, some (aB s), some (.ref k), none, none, none] h = .nx [some w.enc, some (aB s), some (.ref k), some (.int 0), none, none] h := rfl
  have s4 : aH (gN 4) (aa 1) [some w.enc, some (aB s), some (.ref k), some (.int 0), none, none] h = .nx [some w.enc, some (aB s), some (.ref k), some (.int 0), some (aB s), none] h := rfl
  have s5 : aH (gN 5) (aw bV (af (aa 0) (af (aa 4) (af (aa 2) av)))) [some w.enc, some (aB s), some (.ref k), some (.int 0), some (aB s), none] h = .nx [some w.enc, some (aB s), some (.ref k), some (.int 0), some (aB s), some (.ref (h.length + 1))] (h ++ [.lst ((a9 w s o).map .int), .lst ((chL w 0 s o).map du)]) := bE (aF (aJ rfl (cB rfl rfl)) cs)
  have s6 : bi (eW (af (aa 3) (af (aa 4) av))) [some w.enc, some (aB s), some (.ref k), some (.int r), some (aB (ba w o s r)), some (.ref c')] (h ++ g') = .rt (.tup [.int r, aB (ba w o s r)]) (h ++ g') := bU (n8 (cB rfl rfl) (by exact of_decide_eq_true rfl))
  have q : jV (tE (ao oNe (aa 5) (bo av))) fY [some w.enc, some (aB s), some (.ref k), some (.int 0), some (aB s), some (.ref (h.length + 1))] (h ++ [.lst ((a9 w s o).map .int), .lst ((chL w 0 s o).map du)]) = .nx [some w.enc, some (aB s), some (.ref k), some (.int r), some (aB (ba w o s r)), some (.ref c')] (h ++ g') := q
  exact (cU (σ := [some w.enc, some (aB s), some (.ref k), none, none, none]) rfl rfl ((aX s1).trans ((aX s2).trans ((aX (BK s3)).trans ((aX (BK s4)).trans ((aX (BK s5)).trans ((aX (BK q)).trans (JD s6)))))))).trans (el (by simp [pure?, dn, sJ]))
section
variable {w : Web} {n : Nat} {s : List Int}
theorem wI (W : w.Ok n) (hn : n ≤ 1000) (F : cW w n s) {o : List Nat} (ho : ¬ wF w n o) {h : Hd} {k : Nat} (hk : h[k]? = some (.lst (az o))) : ∃ g, cx [w.enc, aB s, .ref k] h = .exc (.exn "NoOrder" []) (h ++ g) := by
  obtain ⟨g, q⟩ := Co W hn ho hk
  exact ⟨g, uo rfl rfl ((aX (yD (aF (ox (cB rfl rfl)) (sI (Bs W F h))))).trans (BC (BE (ow (ox (cB rfl rfl)) q))))⟩
theorem wJ {d e : D} {h : Hd} (f : dI [w.enc, d] h = .ok (.bl false) h) : cx [w.enc, d, e] h = .exc (.exn "NoStand" []) h :=
  uo rfl rfl (BC (BE (ow (ox (cB rfl rfl)) (Cm f))))
abbrev lN : D := .str [111, 114, 100, 101, 114]
abbrev oz : D := .str [115, 116, 97, 110, 100]
theorem Cp {a b c d : D} {h : Hd} (q : cx [a, b, c] h = .ok d h) : cN [a, b, c] h = .ok d h :=
  (cU (σ := [some a, some b, some c, none, none, none, none]) rfl rfl ((aX (bE (d := .non) rfl)).trans ((aX (bE (d := .non) rfl)).trans ((aX (Iz (bE (aF (ox (aJ rfl (cB rfl rfl))) q)))).trans (og ((pQ (bu (aO rfl rfl rfl))).trans (bU rfl))))))).trans aU
theorem BM {a b c : D} {h g : Hd} {x : String} {o1 o2 : Bool} {ix : Nat} {d : D} (q : cx [a, b, c] h = .exc (.exn x []) (h ++ g)) (m : x ∈ ["NoStand", "NoOrder"]) (l0 : List.lookup x [("NoStand", false), ("NoOrder", false)] = some false) (l1 : List.lookup x [("NoStand", false), ("NoOrder", true)] = some o1) (l2 : List.lookup x [("NoStand", true), ("NoOrder", false)] = some o2)
    (l3 : List.lookup x [("NoStand", true), ("NoOrder", true)] = some true) (f1 : ([D.bl o1, .bl o2].filter fun d => match d with | .bl b => b | _ => false).length = 1) (f2 : true ∈ [o1, o2]) (f3 : [o1, o2].idxOf true = ix) (f4 : atI [lN, oz] (ix : Int) = some d) (pd : pure? d = true) : cN [a, b, c] h = .ok d h := by
  obtain ⟨A, hA⟩ : ∃ A, A = (h ++ g).length := ⟨_, rfl⟩
  obtain ⟨H, hH⟩ : ∃ H, H = (h ++ g) ++ [bL.lst [.bl o1, .bl o2]] := ⟨_, rfl⟩
  have gA : H[A]? = some (.lst [.bl o1, .bl o2]) := by rw [hH]; exact iq hA _
  have cp : cz (some A) [.bl o1, .bl o2] (gN 0) [(tE (aa 0))] (aa 0) [.bl o1, .bl o2] [none] H = .ok ([D.bl o1, .bl o2].filter fun d => match d with | .bl b => b | _ => false) H := by
    have := bM (g := some A) (all := [.bl o1, .bl o2]) (tg := gN 0) (cs := [(tE (aa 0))]) (e := aa 0) (h := H) (I := fun σ => ∃ a, σ = [a]) (fun d => match d with | .bl b => b | _ => false) (fun d => d) gA (xs := [.bl o1, .bl o2]) (σ := [none]) (by
      rintro x hx σ ⟨a, rfl⟩
      have : ∃ b, x = .bl b := by
        rcases List.mem_cons.mp hx with e | e
        · exact ⟨_, e⟩
        · exact ⟨_, List.mem_singleton.mp e⟩
      obtain ⟨b, rfl⟩ := this
      exact ⟨_, rfl, ⟨_, rfl⟩, lJ (bu rfl), fun _ => rfl⟩) ⟨_, rfl⟩
    rw [this, List.map_id']
  obtain ⟨X, hX⟩ : ∃ X : Sd, X = [none, none, none, some (.exn x []), none, none, none] := ⟨_, rfl⟩
  have v3 : ∀ g, aa 3 X g = .ok (.exn x []) g := fun g => by rw [hX]; rfl
  have s3 : wm 7 3 ["NoStand", "NoOrder"] (aH (gN 4) (aw cx (fPl (af (aa 0) (af (aa 1) (af (aa 2) av)))))) [some a, some b, some c, some .non, some .non, none, none] h = .nx X (h ++ g) := by
    rw [hX]; exact IA (Gq (ow (ox (aJ rfl (cB rfl rfl))) q)) m
  have s4 : sIf (tE (ao mY (aa 3) (fC .non))) (bi (aa 4)) bS X (h ++ g) = .nx X (h ++ g) := eZ (bu (aO (v3 _) rfl rfl))
  have s5 : sIf (tE (m9 [("NoStand", false), ("NoOrder", false)] (aa 3))) (bi (fC (.str [111, 116, 104, 101, 114]))) bS X (h ++ g) = .nx X (h ++ g) := eZ (bu (uq (v3 _) l0))
  have s6 : aH (gN 6) (bo (af (m9 [("NoStand", false), ("NoOrder", true)] (aa 3)) (af (m9 [("NoStand", true), ("NoOrder", false)] (aa 3)) av))) X (h ++ g) = .nx (X.set 6 (some (.ref A))) H := by
    rw [hH]; exact bE (nr hA (cB (uq (v3 _) l1) (uq (v3 _) l2)) (by exact of_decide_eq_true rfl))
  have w3 : ∀ g, aa 3 (X.set 6 (some (.ref A))) g = .ok (.exn x []) g := fun g => by rw [hX]; rfl
  have w6 : ∀ g, aa 6 (X.set 6 (some (.ref A))) g = .ok (.ref A) g := fun g => by rw [hX]; rfl
  have s7 : sIf (tOr (tE (ao oNe (ei (bO 1 [] (db (aa 6)) (gN 0) [(tE (aa 0))] (aa 0))) (fC (.int 1)))) (gl (tE (m9 [("NoStand", true), ("NoOrder", true)] (aa 3))))) (bi (fC (.str [111, 116, 104, 101, 114]))) bS (X.set 6 (some (.ref A))) H = .nx (X.set 6 (some (.ref A))) H :=
    eZ (kE (bu (aO (eU (nk (kF (w6 _) gA) cp)) rfl (by rw [f1]; rfl))) (cY (b := true) (bu (uq (w3 _) l3))))
  have s8 : bi (fIx (af (fC lN) (af (fC oz) av)) (sk (aa 6) (fC (.bl true)))) (X.set 6 (some (.ref A))) H = .rt d H :=
    bU (GX (cB rfl rfl) (Gr (w6 _) gA rfl gA (bs := [o1, o2]) rfl ⟨f2, by exact of_decide_eq_true rfl⟩) (by rw [f3]; exact f4))
  refine (cU (σ := [some a, some b, some c, none, none, none, none]) rfl rfl ((aX (bE (d := .non) rfl)).trans ((aX (bE (d := .non) rfl)).trans ((aX s3).trans ((aX s4).trans ((aX s5).trans ((aX s6).trans ((aX s7).trans s8)))))))).trans ?_
  rw [hH, List.append_assoc]
  exact el pd
theorem yT {d e : D} {h : Hd} (f : dI [w.enc, d] h = .ok (.bl false) h) : cN [w.enc, d, e] h = .ok oz h :=
  BM (g := []) (o1 := false) (o2 := true) (ix := 1) (by rw [List.append_nil]; exact wJ f) (by decide) (by decide) (by decide) (by decide) (by decide) rfl (by decide) (by decide) rfl rfl
theorem yU (W : w.Ok n) (hn : n ≤ 1000) (F : cW w n s) {o : List Nat} (ho : ¬ wF w n o) {h : Hd} {k : Nat} (hk : h[k]? = some (.lst (az o))) : cN [w.enc, aB s, .ref k] h = .ok lN h := by
  obtain ⟨g, q⟩ := wI W hn F ho hk
  exact BM (o1 := true) (o2 := false) (ix := 0) q (by decide) (by decide) (by decide) (by decide) (by decide) rfl (by decide) (by decide) rfl rfl
end
end Fm
set_option linter.all false
namespace Fm
theorem ny {α : Type} (f : α → D) (d : α) {l : List α} {i : Nat} (h : i < l.length) : atI (l.map f) (i : Int) = some (f (l.getD i d)) := da (by rw [List.getElem?_map, List.getElem?_eq_getElem h, List.getD_eq_getElem?_getD, List.getElem?_eq_getElem h]; rfl)
theorem Gs {n p : Nat} (h : p < n) : ixN n (p : Int) = some p := by
  unfold ixN
  rw [if_pos (Int.natCast_nonneg p), if_pos (Int.ofNat_lt.mpr h)]; rfl
section
variable {w : Web} {n : Nat} {s : List Int}
theorem Cq {r : List (Nat × Int)} {t : List Int} (hr : ∀ q ∈ r, q.1 < t.length) (bt : Iu t) {h : Hd} {A : Nat} (hA : h[A]? = some (.lst (t.map .int))) :
    cz none (r.map cr) (gT [0, 1]) [] (ao dw (aa 1) (fAt (aa 2) (aa 0))) (r.map cr) [none, none, some (.ref A)] h = .ok ((r.map fun p => p.2 * t.getD p.1 0).map D.int) h := by
  have := bM (g := none) (all := r.map cr) (tg := gT [0, 1]) (cs := []) (e := ao dw (aa 1) (fAt (aa 2) (aa 0))) (h := h) (I := fun σ => ∃ a b, σ = [a, b, some (.ref A)]) (fun _ => true) (fun d => match d with | .tup [.int i, .int x] => .int (x * t.getD i.toNat 0) | _ => .non) trivial (xs := r.map cr) (σ := [none, none, some (.ref A)]) (by
    rintro x hx σ ⟨a, b, rfl⟩
    obtain ⟨⟨q, wt⟩, hq, rfl⟩ := List.mem_map.mp hx
    exact ⟨_, rfl, ⟨_, _, rfl⟩, rfl, fun _ => aO rfl (ef rfl rfl (uc hA) (F7 (hr _ hq))) (F4 (uf (bt q)))⟩) ⟨_, _, rfl⟩
  rw [this, List.filter_eq_self.mpr (fun _ _ => rfl), List.map_map, List.map_map]
  rfl
noncomputable abbrev XR (w : Web) (s : List Int) (k A : Nat) (a b : Option D) : Sd := [some w.enc, some (aB s), some (.ref k), some (.ref A), a, b]
theorem EN {h : Hd} {A p : Nat} (hA : A = h.length) {t : List Int} {v : Int} (hp : p < t.length) {σ : Sd} {e : EF} (v3 : ∀ g, aa 3 σ g = .ok (.ref A) g) (v4 : ∀ g, aa 4 σ g = .ok (.int p) g) (ve : e σ (h ++ [.lst (t.map .int)]) = .ok (.int v) (h ++ [.lst (t.map .int)])) :
    pM (aa 3) (aa 4) e σ (h ++ [.lst (t.map .int)]) = .nx σ (h ++ [.lst ((t.set p v).map .int)]) := by
  rw [Im ve (v3 _) (v4 _) (iq hA _) (Gs (by rw [List.length_map]; exact hp)), F6 hA, List.map_set]
theorem yV (W : w.Ok n) {t : List Int} (F : cW w n t) {p : Nat} (hp : p < n) {h : Hd} {k A : Nat} (hA : A = h.length) (y : Option D) :
    ∃ y', j9 (XR w s k A (some (.int p)) y) (h ++ [.lst (t.map .int)]) = .nx (XR w s k A (some (.int p)) y') (h ++ [.lst ((t.set p (bB w t p)).map .int)]) := by
  have ht : p < w.ties.length := W.t ▸ hp
  have gA := iq hA (.lst (t.map .int))
  have tl : p < t.length := by rw [F.len]; exact hp
  have hr : ∀ q ∈ w.ties.getD p [], q.1 < t.length := fun q hq => by
    rw [List.getD_eq_getElem?_getD, List.getElem?_eq_getElem ht] at hq
    rw [F.len]; exact W.lt _ (List.getElem_mem ht) q hq
  have pe := sy (r := w.ties.getD p []) (f := t) fun q _ => oj F q.1
  have pb := ny D.int 0 (show p < w.bars.length from W.b ▸ hp)
  have ps := ny bF none (show p < w.stays.length from W.s ▸ hp)
  have s1 : aH (gN 5) (ao dw (fC (.int 2)) (kr (bO 2 [3] (db (fAt (fAt (aa 0) (fC (.int 0))) (aa 4))) (gT [0, 1]) [] (ao dw (aa 1) (fAt (aa 2) (aa 0)))))) (XR w s k A (some (.int p)) y) (h ++ [.lst (t.map .int)]) = .nx (XR w s k A (some (.int p)) (some (.int (2 * cu (w.ties.getD p []) t)))) (h ++ [.lst (t.map .int)]) := by
    rw [pe]
    exact bE (aO rfl (Ip (nk (wo (ef (ef rfl rfl rfl rfl) rfl rfl (ny kD [] ht))) (Cq hr F.bits gA)) (jt _)) (F3 (by decide)))
  refine ⟨some (.int (2 * cu (w.ties.getD p []) t)), (aX s1).trans ?_⟩
  clear s1
  have nx : bB w t p = match w.stays.getD p none with | some x => x | none => if 2 * cu (w.ties.getD p []) t = w.bars.getD p 0 then t.getD p 0 else if w.bars.getD p 0 < 2 * cu (w.ties.getD p []) t then 1 else 0 := rfl
  have sg : ∀ x, w.stays.getD p none = some x → t.getD p 0 = x := fun x e => sA F e
  rw [nx]
  generalize 2 * cu (w.ties.getD p []) t = P
  generalize w.bars.getD p 0 = b at pb ⊢
  generalize w.stays.getD p none = st at ps sg ⊢
  have as : fAt (fAt (aa 0) (fC (.int 2))) (aa 4) (XR w s k A (some (.int p)) (some (.int P))) (h ++ [.lst (t.map .int)]) = .ok (bF st) (h ++ [.lst (t.map .int)]) := ef (ef rfl rfl rfl rfl) rfl rfl ps
  have ab : fAt (fAt (aa 0) (fC (.int 1))) (aa 4) (XR w s k A (some (.int p)) (some (.int P))) (h ++ [.lst (t.map .int)]) = .ok (.int b) (h ++ [.lst (t.map .int)]) := ef (ef rfl rfl rfl rfl) rfl rfl pb
  cases st with
  | some x =>
    refine (eZ (jr (bu (aO as rfl rfl)))).trans ?_
    show Out.nx _ _ = Out.nx _ (h ++ [.lst ((t.set p x).map .int)])
    rw [fX (sg x rfl).symm]
  | none =>
    by_cases e1 : P = b
    · refine (eZ (ip (bu (aO as rfl rfl)) (bu (aO rfl ab (by rw [ir, decide_eq_true e1]; rfl))))).trans ?_
      show Out.nx _ _ = Out.nx _ (h ++ [.lst ((t.set p (if P = b then t.getD p 0 else _)).map .int)])
      rw [if_pos e1, fX rfl]
    · refine (pQ (ip (b := true) (bu (aO as rfl rfl)) (bu (aO rfl ab (by rw [ir, decide_eq_false e1]; rfl))))).trans ?_
      show _ = Out.nx _ (h ++ [.lst ((t.set p (if P = b then t.getD p 0 else if b < P then 1 else 0)).map .int)])
      rw [if_neg e1]
      by_cases e2 : b < P
      · rw [if_pos e2]; exact EN hA tl (fun _ => rfl) (fun _ => rfl) (Es (b := true) (aO rfl ab (Iq e2)))
      · rw [if_neg e2]; exact EN hA tl (fun _ => rfl) (fun _ => rfl) (Es (b := false) (aO rfl ab (Ir e2)))
theorem wK (W : w.Ok n) (S : dJ w) (F : cW w n s) {o : List Nat} (ho : ∀ p ∈ o, p < n) {h : Hd} {k : Nat} (hk : h[k]? = some (.lst (az o))) : fE [w.enc, aB s, .ref k] h = .ok (aB (a9 w s o)) h := by
  obtain ⟨A, hA⟩ : ∃ A, A = h.length := ⟨_, rfl⟩
  obtain ⟨σ', h', q, a, b, e1, e2⟩ := cg (P := fun i σ h' => ∃ a b, σ = XR w s k A a b ∧ h' = h ++ [.lst ((a9 w s (o.take i)).map .int)]) (g := some k) (k := 0) (all := az o) (fun i σ h' ⟨_, _, _, e⟩ => by show h'[k]? = _; rw [e]; exact fW _ hk)
    (xs := az o) (tg := gN 4) (σ := XR w s k A none none) (h := h ++ [.lst (s.map .int)]) (b := j9) (by
      rintro i x σ h0 hx ⟨a, b, rfl, rfl⟩
      rw [Nat.zero_add]
      have hx' : o[i]?.map (fun p : Nat => D.int p) = some x := by rw [← List.getElem?_map]; exact hx
      obtain ⟨p, hp, rfl⟩ := Option.map_eq_some_iff.mp hx'
      obtain ⟨y', st⟩ := yV (s := s) W (fz W S (o.take i) F) (ho p (List.mem_of_getElem? hp)) (k := k) hA b
      refine ⟨_, rfl, _, _, st, _, _, rfl, ?_⟩
      rw [List.take_succ, hp]
      show _ = h ++ [.lst ((a9 w s (o.take i ++ [p])).map .int)]
      rw [lL]) ⟨_, _, rfl, by rw [List.take_zero]; rfl⟩
  have l0 : 0 + (az o).length = o.length := by rw [az, List.length_map, Nat.zero_add]
  rw [l0, List.take_length] at e2
  rw [e1, e2] at q
  have ls : (s.map D.int).length ≤ SZ := by rw [List.length_map, F.len]; exact Nat.le_trans W.sz (by decide)
  exact (cU (σ := [some w.enc, some (aB s), some (.ref k), none, none, none]) rfl rfl ((aX (bE (nr hA (dG rfl rfl) ls))).trans ((aX (lI (kF rfl (fW _ hk)) q)).trans (bU (F5 (dG rfl (uc (iq hA _)))))))).trans (el (sJ _))
noncomputable abbrev XD (w : Web) (s : List Int) (k : Nat) (a b c : Option D) : Sd := [some w.enc, some (aB s), some (.ref k), a, b, c]
theorem wL (W : w.Ok n) {o : List Nat} {h : Hd} {k : Nat} (hk : h[k]? = some (.lst (az o))) {p : Nat} (hp : p < n) : (w.stays.getD p none = none ∧ p ∉ o → i7 (XD w s k (some (.int p)) none none) h = .rt lN h) ∧ (¬ (w.stays.getD p none = none ∧ p ∉ o) → i7 (XD w s k (some (.int p)) none none) h = .nx (XD w s k (some (.int p)) none none) h) := by
  have ps := ny bF none (show p < w.stays.length from W.s ▸ hp)
  generalize w.stays.getD p none = st at ps ⊢
  have as : fAt (fAt (aa 0) (fC (.int 2))) (aa 3) (XD w s k (some (.int p)) none none) h = .ok (bF st) h := ef (ef rfl rfl rfl rfl) rfl rfl ps
  refine ⟨fun ⟨e, z⟩ => ?_, fun z => ?_⟩
  · subst e
    exact (pQ (ip (b := true) (bu (aO as rfl rfl)) (bu (aO rfl rfl ((g9 hk).trans (by rw [decide_eq_false z]; rfl)))))).trans (bU rfl)
  · cases st with
    | some x => exact eZ (jr (bu (aO as rfl rfl)))
    | none => exact eZ (ip (b := false) (bu (aO as rfl rfl)) (bu (aO rfl rfl ((g9 hk).trans (by rw [decide_eq_true (Classical.byContradiction fun y => z ⟨rfl, y⟩)]; rfl)))))
theorem Cr (W : w.Ok n) (F : cW w n s) {o : List Nat} (ho : ¬ wF w n o) {h : Hd} {k : Nat} (hk : h[k]? = some (.lst (az o))) : e9 [w.enc, aB s, .ref k] h = .ok lN h := by
  obtain ⟨p, hp, hs, hno⟩ := wG ho
  obtain ⟨x, q⟩ := oy (g := none) (all := (List.range n).map fun k : Nat => D.int k) (tg := gN 3) (B := i7) (σ := fun a => XD w s k a none none) (h := h) (fun x => ∃ p : Nat, x = .int p ∧ w.stays.getD p none = none ∧ p ∉ o) trivial (fun _ _ => rfl)
    (fun _ => .rt lN h) (fun x => .inl ⟨_, rfl⟩) (xs := (List.range n).map fun k : Nat => D.int k) none (by
    intro x hx
    obtain ⟨p, hp, rfl⟩ := List.mem_map.mp hx
    have t := wL (s := s) W hk (List.mem_range.mp hp)
    refine ⟨fun ⟨q, e, hq⟩ => ?_, fun z => t.2 fun y => z ⟨p, rfl, y⟩⟩
    have : p = q := by injection e with e; exact Int.ofNat.inj e
    subst this
    exact t.1 hq) ⟨.int p, List.mem_map.mpr ⟨p, List.mem_range.mpr hp, rfl⟩, p, rfl, hs, hno⟩
  have hl : (s.map D.int).length = n := by rw [List.length_map, F.len]
  exact (cU (σ := XD w s k none none none) rfl rfl (og (lI (n9 (eU (dG rfl rfl)) (by rw [hl]; exact W.sz)) (by rw [hl]; exact q)))).trans aU
theorem EO (W : w.Ok n) (S : dJ w) (sym : ∀ f s, S2 (fun i => w.ties.getD i []) f s n = S2 (fun i => w.ties.getD i []) s f n) (ns : ∀ i p, p ∈ w.ties.getD i [] → p.1 ≠ i) {o : List Nat} (ho : ∀ p ∈ o, p < n) {t : List Int} (F : cW w n t) : chL w 0 t o = [] ↔ a9 w t o = t := by
  refine ⟨fun z => (Ew z).1, fun z => ?_⟩
  have f := ju W S sym ns o 0 ho F
  rw [z] at f
  have : (chL w 0 t o).length = 0 := by omega
  exact List.eq_nil_of_length_eq_zero this
theorem EQ (W : w.Ok n) (S : dJ w) (sym : ∀ f s, S2 (fun i => w.ties.getD i []) f s n = S2 (fun i => w.ties.getD i []) s f n) (ns : ∀ i p, p ∈ w.ties.getD i [] → p.1 ≠ i) (F : cW w n s) {o : List Nat} (ho : ∀ p ∈ o, p < n) (hf : wF w n o) {h : Hd} {k : Nat} (hk : h[k]? = some (.lst (az o)))
    {r : Nat} (hr : chL w 0 (ba w o s r) o = []) (hm : ∀ j, j < r → chL w 0 (ba w o s j) o ≠ []) : e9 [w.enc, aB s, .ref k] h = .ok (.tup [.int r, aB (ba w o s r)]) h := by
  have hl : (s.map D.int).length = n := by rw [List.length_map, F.len]
  obtain ⟨a, q⟩ := nv (g := none) (all := (List.range n).map fun k : Nat => D.int k) (tg := gN 3) (B := i7) (σ := fun a => XD w s k a none none) (h := h) trivial (fun _ _ => rfl) (xs := (List.range n).map fun k : Nat => D.int k) none (by
    intro x hx
    obtain ⟨p, hp, rfl⟩ := List.mem_map.mp hx
    have hp := List.mem_range.mp hp
    exact (wL (s := s) W hk hp).2 fun ⟨y, z⟩ => z (hf p hp y))
  have Fj : ∀ j, cW w n (ba w o s j) := dL W S F
  obtain ⟨X, hX⟩ : ∃ X : Nat → Sd, X = fun j => [some w.enc, some (aB (ba w o s j)), some (.ref k), a, some (.int j), some (aB (a9 w (ba w o s j) o))] := ⟨_, rfl⟩
  have tst : ∀ j, tE (ao oNe (aa 5) (aa 1)) (X j) h = .ok (!decide (a9 w (ba w o s j) o = ba w o s j)) h := fun j => by
    rw [hX]; exact bu (aO rfl rfl (F9 (by rw [(fz W S o (Fj j)).len, (Fj j).len]) h))
  have bod : ∀ j, kK (X j) h = .nx (X (j + 1)) h := fun j => by
    rw [hX]
    exact (aX (bE (aO rfl rfl rfl))).trans ((aX (bE rfl)).trans (bE (aF (aJ rfl (cB rfl rfl)) (wK W S (Fj (j + 1)) ho hk))))
  have loop : ∀ (m j : Nat), j + m = r → cF (tE (ao oNe (aa 5) (aa 1))) kK (m + 1) (X j) h = .nx (X r) h := by
    intro m
    induction m with
    | zero =>
      intro j hj
      have e : j = r := hj
      subst e
      rw [cF, tst, decide_eq_true ((EO W S sym ns ho (Fj j)).mp hr)]
      rfl
    | succ m ih =>
      intro j hj
      have ne : ¬ a9 w (ba w o s j) o = ba w o s j := fun z => hm j (by omega) ((EO W S sym ns ho (Fj j)).mpr z)
      rw [cF, tst, decide_eq_false ne]
      show (match kK (X j) h with | .nx σ h => _ | .ct σ h => _ | .bk σ h => _ | r => r) = _
      rw [bod]
      exact ih (j + 1) (by omega)
  have wl := sx (loop r 0 (Nat.zero_add r)) (by intro z; cases z)
  rw [hX] at wl
  exact (cU (σ := XD w s k none none none) rfl rfl ((aX (lI (n9 (eU (dG rfl rfl)) (by rw [hl]; exact W.sz)) (by rw [hl]; exact q))).trans ((aX (bE (d := .int 0) rfl)).trans ((aX (bE (aF (aJ rfl (cB rfl rfl)) (wK W S F ho hk)))).trans ((aX wl).trans (bU (n8 (cB rfl rfl) (by exact of_decide_eq_true rfl)))))))).trans aU
theorem IB (x : List Nat) (h : Hd) : iw [.str x, .str x] h = .ok (.bl true) h := by
  have e : oEq (.str x) (.str x) h = .ok (.bl true) h := by
    show (match eqG h (.str x) (.str x) with | some b => Res.ok (D.bl b) h | none => .bad) = _
    have : eqG h (.str x) (.str x) = some true := by simp only [eqG, bP, dep, peq, decide_true]; rfl
    rw [this]
  exact (cU rfl rfl (og ((pQ (bu (b := true) rfl)).trans (bU (aO rfl rfl e))))).trans aU
theorem ER (r : Int) (t : List Int) (h : Hd) : oNe (.tup [.int r, aB t]) (.tup [.int r, aB t]) h = .ok (.bl false) h := by
  have p := Bu (a := t) (b := t) rfl
  have d : dep (.tup [.int r, aB t]) ≤ 20 := by
    have := Bt t
    simp only [dep, jT, this]; decide
  have : eqG h (.tup [.int r, aB t]) (.tup [.int r, aB t]) = some true := by
    simp only [eqG, bP, if_pos d, peq, gF, p, decide_true]; rfl
  show (match eqG h _ _ with | some b => Res.ok (D.bl (!b)) h | none => .bad) = _
  rw [this]; rfl
theorem IC (r : Int) (t : List Int) (lt : t.length ≤ 1000) (h : Hd) : iw [.tup [.int r, aB t], .tup [.int r, aB t]] h = .ok (.bl true) h := by
  obtain ⟨a, q⟩ := nv (g := none) (all := .int r :: t.map D.int) (tg := gN 2) (B := BA) (σ := fun a => [some (.tup [.int r, aB t]), some (.tup [.int r, aB t]), a]) (h := h) trivial (fun _ _ => rfl) (xs := .int r :: t.map D.int) none (by
    intro x hx
    have : ∃ i, x = .int i := by
      rcases List.mem_cons.mp hx with e | e
      · exact ⟨_, e⟩
      · obtain ⟨i, _, rfl⟩ := List.mem_map.mp e; exact ⟨i, rfl⟩
    obtain ⟨i, rfl⟩ := this
    exact eZ (kE (cY (b := true) (bu rfl)) (bu (b := false) rfl)))
  have ad : ao cE (eW (af (fAt (aa 0) (fC (.int 0))) av)) (fAt (aa 0) (fC (.int 1))) [some (.tup [.int r, aB t]), some (.tup [.int r, aB t]), none] h = .ok (.tup (.int r :: t.map D.int)) h :=
    aO (n8 (aJ (ef rfl rfl rfl rfl) rfl) (by exact of_decide_eq_true rfl)) (ef rfl rfl rfl rfl) (if_pos (show 1 + (t.map D.int).length ≤ SZ by rw [List.length_map]; exact Nat.le_trans (Nat.add_le_add_left lt 1) (by decide)))
  exact (cU rfl rfl ((aX (eZ (bu (b := false) rfl))).trans ((aX (eZ (kE (cY (b := true) (bu rfl)) (kE (bu (aO (eU (dG rfl rfl)) rfl rfl)) (kE (bu (aO rfl rfl (ER r t h))) (cY (b := true) (bu (by exact rfl)))))))).trans ((aX (lI (wo ad) q)).trans (bU rfl))))).trans aU
structure Kd (w : Web) (s : List Int) (o : List Nat) (d : D) : Prop where
  told : ∀ {h : Hd} {k : Nat}, h[k]? = some (.lst (az o)) → cN [w.enc, aB s, .ref k] h = .ok d h
  due : ∀ {h : Hd} {k : Nat}, h[k]? = some (.lst (az o)) → e9 [w.enc, aB s, .ref k] h = .ok d h
  is : ∀ h, iw [d, d] h = .ok (.bl true) h
theorem BN (W : w.Ok n) (S : dJ w) (sym : ∀ f s, S2 (fun i => w.ties.getD i []) f s n = S2 (fun i => w.ties.getD i []) s f n) (ns : ∀ i p, p ∈ w.ties.getD i [] → p.1 ≠ i) (F : cW w n s) {o : List Nat} (ho : ∀ p ∈ o, p < n) (lo : o.length ≤ 500) : ∃ d, Kd w s o d := by
  by_cases c : wF w n o
  · obtain ⟨r, hr, hm⟩ := Gc W S sym ns ho F
    exact ⟨_, fun hk => Cp (wH W W.sz S F ho c lo hk hr hm), fun hk => EQ W S sym ns F ho c hk hr hm, fun h => IC _ _ (by rw [(dL W S F r).len]; exact W.sz) h⟩
  · exact ⟨_, fun hk => yU W W.sz F c hk, fun hk => Cr W F c hk, fun h => IB _ h⟩
end
end Fm
set_option linter.all false
namespace Fm
noncomputable abbrev X18 (S0 : D) (w : Web) (B : D) (s : List Int) (k : Nat) (r a b c d : Option D) : Sd := [some S0, some w.enc, some B, some (.ref 0), some (aB s), some (.ref k), r, a, b, c, d]
structure Cf (n : Nat) (w : Web) (s : List Int) (o : List Nat) (k : Nat) (h : Hd) : Prop where
  n1 : 1 ≤ n
  n30 : n ≤ 30
  ok : w.Ok n
  st : dJ w
  ft : cW w n s
  sym : ∀ f s, S2 (fun i => w.ties.getD i []) f s n = S2 (fun i => w.ties.getD i []) s f n
  ns : ∀ i p, p ∈ w.ties.getD i [] → p.1 ≠ i
  ho : ∀ p ∈ o, p < n
  lo : o.length ≤ 60
  hk : h[k]? = some (.lst (az o))
theorem Cs (o : List Nat) : az o = (o.map fun p : Nat => (p : Int)).map D.int := by rw [List.map_map]; rfl
theorem ES {o : List Nat} {h : Hd} {a b : Nat} (ha : h[a]? = some (.lst (az o))) (hb : h[b]? = some (.lst (az o))) : oNe (.ref a) (.ref b) h = .ok (.bl false) h := by
  have e : eqL (az o) (az o) = some true := by
    unfold eqL
    rw [Cs, sB, if_pos (Nat.zero_le _), if_pos rfl, lK _ _ rfl, decide_eq_true rfl]
  simp only [oNe, eqG, bP, ha, hb, e]; rfl
theorem fZ (o : List Nat) : (az o).length = o.length := by rw [az, List.length_map]
theorem BO {w : Web} {n : Nat} (W : w.Ok n) {s : List Int} (F : cW w n s) (n1 : 1 ≤ n) {d : D} (b : ∀ h, Cj d h) (h : Hd) : dI [w.enc, .tup ((s.map D.int).take (n - 1) ++ [d])] h = .ok (.bl false) h := by
  have e := EM W F (p := n - 1) (Nat.sub_lt n1 Nat.one_pos) (.inl (b h))
  rw [Nat.sub_add_cancel n1, List.drop_of_length_le (by rw [List.length_map, F.len]; exact Nat.le_refl _), List.append_nil] at e
  exact e
theorem Gu {n : Nat} {w : Web} {s : List Int} {o : List Nat} {k : Nat} {h : Hd} (C : Cf n w s o k h) (ns : List Int) (B : D) (r : Option D) :
    ∃ h', aC yM (aC yN (aC yO (aC yP (aC yQ (aC yR (aC uj (aC uk ul))))))) (X18 (.lit (ns.map .int)) w B s k r none none none none) h = .rt (.bl true) h' := by
  obtain ⟨S0, hS0⟩ : ∃ S0 : D, S0 = .lit (ns.map .int) := ⟨_, rfl⟩
  obtain ⟨v, hv⟩ := G1 ns 40 ⟨by decide, by decide⟩
  rw [← hS0] at hv ⊢
  obtain ⟨A, hA⟩ : ∃ A, A = h.length := ⟨_, rfl⟩
  have W := C.ok
  have F := C.ft
  have ls : (s.map D.int).length = n := by rw [List.length_map, F.len]
  have lo : (az o).length ≤ SZ := by rw [fZ]; exact Nat.le_trans C.lo (by decide)
  obtain ⟨d, Bo⟩ := BN W C.st C.sym C.ns F C.ho (Nat.le_trans C.lo (by decide))
  have K := fun g => fW g C.hk
  have s4 : yM (X18 S0 w B s k r none none none none) h = .nx (X18 S0 w B s k r (some (.ref A)) none none none) (h ++ [.lst (az o)]) := bE (nr hA (dG rfl (uc C.hk)) lo)
  have s5 : yN (X18 S0 w B s k r (some (.ref A)) none none none) (h ++ [.lst (az o)]) = .nx (X18 S0 w B s k r (some (.ref A)) (some d) none none) (h ++ [.lst (az o)]) := bE (aF (aJ rfl (cB rfl rfl)) (Bo.due (K _)))
  have gA : (h ++ [.lst (az o)])[A]? = some (.lst (az o)) := iq hA _
  have s6 : yO (X18 S0 w B s k r (some (.ref A)) (some d) none none) (h ++ [.lst (az o)]) = .nx (X18 S0 w B s k r (some (.ref A)) (some d) none none) (h ++ [.lst (az o)]) :=
    eZ (kE (cY (b := true) (bu (aF (cB (aF (aJ rfl (cB rfl rfl)) (Bo.told gA)) rfl) (Bo.is _)))) (bu (aO rfl rfl (ES gA (K _)))))
  obtain ⟨T, hT⟩ : ∃ T, T = (s.map D.int).take (n - 1) := ⟨_, rfl⟩
  have lT : T.length ≤ 30 := by rw [hT]; exact Nat.le_trans (List.length_take_le' _ _) (by rw [ls]; exact C.n30)
  have cn := Gp ls C.n1
  rw [← hT] at cn
  have sl : ∀ (σ : Sd) (g : Hd), aa 4 σ g = .ok (aB s) g → gG (aa 4) pNo (pAt (fC (.int (-1)))) σ g = .ok (.tup T) g := fun σ g v4 => by
    have : gG (aa 4) pNo (pAt (fC (.int (-1)))) σ g = (if sIx (s.map D.int).length 0 none = 0 ∧ sIx (s.map D.int).length (s.map D.int).length (some (-1)) = (s.map D.int).length then .bad else .ok (.tup (cut (s.map D.int) none (some (-1)))) g) := by
      unfold gG; rw [v4]; rfl
    rw [this, if_neg (fun z => cn.2 z.2), cn.1]
  obtain ⟨g3, hg3⟩ : ∃ g3 : Hd, g3 = [.lst (az o), .lst (s.map .int), .lst [.ref (A + 1), .tup T, .non]] := ⟨_, rfl⟩
  have s7 : yP (X18 S0 w B s k r (some (.ref A)) (some d) none none) (h ++ [.lst (az o)]) = .nx (X18 S0 w B s k r (some (.ref A)) (some d) (some (.ref (A + 2))) none) (h ++ g3) := by
    rw [hg3]
    have f1 : bo (lOf (aa 4)) (X18 S0 w B s k r (some (.ref A)) (some d) none none) (h ++ [.lst (az o)]) = .ok (.ref (A + 1)) (h ++ [.lst (az o), .lst (s.map .int)]) := gz (g := [.lst (az o)]) hA (dG rfl rfl) (by rw [ls]; exact Cd C.n30)
    exact bE (gz (g := [.lst (az o), .lst (s.map .int)]) hA (aJ f1 (cB (sl _ _ rfl) rfl)) (by exact of_decide_eq_true rfl))
  obtain ⟨l5, hl5⟩ : ∃ l5 : List D, l5 = [.ref (A + 1), .tup T, .non, .tup (T ++ [.int 2]), .tup (T ++ [.non])] := ⟨_, rfl⟩
  obtain ⟨g5, hg5⟩ : ∃ g5 : Hd, g5 = [.lst (az o), .lst (s.map .int), .lst [.ref (A + 1), .tup T, .non], .lst [.tup (T ++ [.int 2]), .tup (T ++ [.non])], .lst l5] := ⟨_, rfl⟩
  have s8 : yQ (X18 S0 w B s k r (some (.ref A)) (some d) (some (.ref (A + 2))) none) (h ++ g3) = .nx (X18 S0 w B s k r (some (.ref A)) (some d) (some (.ref (A + 4))) none) (h ++ g5) := by
    have z1 : ∀ x : D, T.length + [x].length ≤ SZ := fun x => Nat.le_trans (Nat.add_le_add_right lT 1) (by decide)
    have f2 : bo (af (ao mF (gG (aa 4) pNo (pAt (fC (.int (-1))))) (eW (af (fC (.int 2)) av))) (af (ao mF (gG (aa 4) pNo (pAt (fC (.int (-1))))) (eW (af (fC .non) av))) av)) (X18 S0 w B s k r (some (.ref A)) (some d) (some (.ref (A + 2))) none) (h ++ g3) = .ok (.ref (A + 3)) (h ++ [.lst (az o), .lst (s.map .int), .lst [.ref (A + 1), .tup T, .non], .lst [.tup (T ++ [.int 2]), .tup (T ++ [.non])]]) := by
      rw [hg3]
      exact gz (g := [.lst (az o), .lst (s.map .int), .lst [.ref (A + 1), .tup T, .non]]) hA (cB (aO (sl _ _ rfl) (n8 (aJ rfl rfl) (by exact of_decide_eq_true rfl)) (BI (z1 _))) (aO (sl _ _ rfl) (n8 (aJ rfl rfl) (by exact of_decide_eq_true rfl)) (BI (z1 _)))) (by exact of_decide_eq_true rfl)
    rw [hg5, hl5]
    exact bE (gz (g := [.lst (az o), .lst (s.map .int), .lst [.ref (A + 1), .tup T, .non], .lst [.tup (T ++ [.int 2]), .tup (T ++ [.non])]]) hA (BJ rfl f2 (cH hA 2) (cH hA 3) (by exact of_decide_eq_true rfl)) (by exact of_decide_eq_true rfl))
  have gT : (h ++ g5)[A + 4]? = some (.lst l5) := by rw [hg5]; exact cH hA 4
  have nf : ∀ x ∈ l5, dI [w.enc, x] (h ++ g5) = .ok (.bl false) (h ++ g5) := by
    intro x hx
    rw [hl5] at hx
    simp only [List.mem_cons, List.not_mem_nil, or_false] at hx
    have g1 : (h ++ g5)[A + 1]? = some (.lst (s.map .int)) := by rw [hg5]; exact cH hA 1
    rcases hx with rfl | rfl | rfl | rfl | rfl
    · exact sH (by simp only [yk, g1]; rfl)
    · refine Cl W ?_ _
      rw [hT, List.length_take, ls, Nat.min_eq_left (Nat.sub_le n 1)]
      exact Nat.ne_of_lt (Nat.sub_lt C.n1 Nat.one_pos)
    · exact sH rfl
    · rw [hT]; exact BO W F C.n1 (fun h => JC List.mem_cons_self h) _
    · rw [hT]; exact BO W F C.n1 (fun h => nu rfl) _
  have s9 : yR (X18 S0 w B s k r (some (.ref A)) (some d) (some (.ref (A + 4))) none) (h ++ g5) = .nx (X18 S0 w B s k r (some (.ref A)) (some d) (some (.ref (A + 4))) none) (h ++ g5) := by
    obtain ⟨q, hq, q5⟩ := um v (m := 5) (by decide)
    have ll : l5.length = 5 := by rw [hl5]; rfl
    have e5 : l5[q]? = some (l5[q]'(by rw [ll]; exact q5)) := List.getElem?_eq_getElem _
    have md : ao ie (aw cC (af (aa 0) (af (fC (.int 40)) av))) (fC (.int 5)) (X18 S0 w B s k r (some (.ref A)) (some d) (some (.ref (A + 4))) none) (h ++ g5) = .ok (.int q) (h ++ g5) := by
      rw [← hq]; exact aO (aF (cB rfl rfl) (hv _)) rfl (Io (by decide))
    have st : oNe oz oz (h ++ g5) = .ok (.bl false) (h ++ g5) := rfl
    exact eZ (bu (aO (aF (aJ rfl (cB (ef rfl md (uc gT) (da e5)) rfl)) (yT (nf _ (List.getElem_mem _)))) rfl st))
  obtain ⟨ms, hms⟩ : ∃ ms : List Nat, ms = (List.range n).filter fun p => !decide (p ∈ o) := ⟨_, rfl⟩
  have lm : ms.length ≤ 30 := by rw [hms]; exact Nat.le_trans (List.length_filter_le _ _) (by rw [List.length_range]; exact C.n30)
  have K5 := K g5
  have cp : cz none ((List.range n).map fun k : Nat => D.int k) (gN 0) [(tE (ao eS (aa 0) (aa 1)))] (aa 0) ((List.range n).map fun k : Nat => D.int k) [none, some (.ref k)] (h ++ g5) = .ok (az ms) (h ++ g5) := by
    have := bM (g := none) (all := (List.range n).map fun k : Nat => D.int k) (tg := gN 0) (cs := [(tE (ao eS (aa 0) (aa 1)))]) (e := aa 0) (h := h ++ g5) (I := fun σ => ∃ a, σ = [a, some (.ref k)]) (fun d => match d with | .int i => !decide (i.toNat ∈ o) | _ => false) (fun d => d) trivial (xs := (List.range n).map fun k : Nat => D.int k) (σ := [none, some (.ref k)]) (by
      rintro x hx σ ⟨a, rfl⟩
      obtain ⟨p, hp, rfl⟩ := List.mem_map.mp hx
      exact ⟨_, rfl, ⟨_, rfl⟩, lJ (bu (aO rfl rfl (g9 K5))), fun _ => rfl⟩) ⟨_, rfl⟩
    rw [this, List.map_id', hms, az, List.filter_map]
    rfl
  have eo : az (o ++ ms) = az o ++ az ms := List.map_append
  have s10 : ∃ g7 q7, uj (X18 S0 w B s k r (some (.ref A)) (some d) (some (.ref (A + 4))) none) (h ++ g5) = .nx (X18 S0 w B s k r (some (.ref A)) (some d) (some (.ref (A + 4))) (some (.ref q7))) (h ++ g7) ∧ (h ++ g7)[q7]? = some (.lst (az (o ++ ms))) := by
    refine ⟨g5 ++ [.lst (az ms)] ++ [.lst (az o ++ az ms)], A + (g5 ++ [bL.lst (az ms)]).length, ?_, ?_⟩
    · have f := gz (σ := X18 S0 w B s k r (some (.ref A)) (some d) (some (.ref (A + 4))) none) (r := bO 1 [5] (bZ (ei (lOf (aa 4)))) (gN 0) [(tE (ao eS (aa 0) (aa 1)))] (aa 0)) (h := h ++ g5) (h0 := h) (g := g5) hA (nk (n9 (eU (dG rfl rfl)) (by rw [ls]; exact Cd C.n30)) (by rw [ls]; exact cp)) (by rw [fZ]; exact Cd lm)
      exact bE (gz (g := g5 ++ [.lst (az ms)]) hA (BJ rfl f (K _) (cH hA g5.length |>.trans List.getElem?_concat_length) (by rw [fZ, fZ]; exact Nat.le_trans (Nat.add_le_add C.lo lm) (by decide))) (by rw [List.length_append, fZ, fZ]; exact Nat.le_trans (Nat.add_le_add C.lo lm) (by decide)))
    · rw [cH hA, eo]; exact List.getElem?_concat_length
  obtain ⟨g7, q7, s10, k7⟩ := s10
  have hom : ∀ p ∈ o ++ ms, p < n := fun p hp => by
    rcases List.mem_append.mp hp with z | z
    · exact C.ho p z
    · rw [hms] at z; exact List.mem_range.mp (List.mem_filter.mp z).1
  obtain ⟨d2, B2⟩ := BN W C.st C.sym C.ns F hom (by rw [List.length_append]; exact Nat.le_trans (Nat.add_le_add C.lo lm) (by decide))
  have s11 : uk (X18 S0 w B s k r (some (.ref A)) (some d) (some (.ref (A + 4))) (some (.ref q7))) (h ++ g7) = .nx (X18 S0 w B s k r (some (.ref A)) (some d) (some (.ref (A + 4))) (some (.ref q7))) (h ++ g7) :=
    eZ (cY (b := true) (bu (aF (cB (aF (aJ rfl (cB rfl rfl)) (B2.told k7)) (aF (aJ rfl (cB rfl rfl)) (B2.due k7))) (B2.is _))))
  have s12 : ul (X18 S0 w B s k r (some (.ref A)) (some d) (some (.ref (A + 4))) (some (.ref q7))) (h ++ g7) = .rt (.bl true) (h ++ g7) :=
    bU (aF (cB (aF (aJ rfl (cB rfl rfl)) (Bo.told (K _))) (aF (aJ rfl (cB rfl rfl)) (Bo.due (K _)))) (Bo.is _))
  exact ⟨_, (aX s4).trans ((aX s5).trans ((aX s6).trans ((aX s7).trans ((aX s8).trans ((aX s9).trans ((aX s10).trans ((aX s11).trans s12)))))))⟩
theorem ID (ns : List Int) (_ : ns.length ≤ 63) : ∃ h, BB [.lit (ns.map .int)] [] = .ok (.bl true) h := by
  obtain ⟨n, w, h1, O⟩ := Iy ns
  have W := O.ok
  have hn := O.n30
  obtain ⟨s, h2, q2, F, H2, l2, old2⟩ := EE W O.st hn ⟨O.hst, O.sts⟩
  obtain ⟨x0, hx0⟩ := O.hd0
  have hx2 : h2[0]? = some (.lst [.int x0]) := by rw [old2 0 (.inl rfl)]; exact hx0
  obtain ⟨o, k, g, q3, gk, o1, o2, o3⟩ := wE ns O.n1 hn h2
  have ls : (s.map D.int).length = n := by rw [List.length_map, F.len]
  obtain ⟨S0, hS0⟩ : ∃ S0 : D, S0 = .lit (ns.map .int) := ⟨_, rfl⟩
  have web := O.run
  rw [← hS0] at web q3
  have e0 : yL [some S0, none, none, none, none, none, none, none, none, none, none] [] = .nx [some S0, some w.enc, some (.ref (n + 1)), some (.ref 0), none, none, none, none, none, none, none] h1 := by simp [yL, web]
  have e1 : EH [some S0, some w.enc, some (.ref (n + 1)), some (.ref 0), none, none, none, none, none, none, none] h1 = .nx [some S0, some w.enc, some (.ref (n + 1)), some (.ref 0), some (aB s), none, none, none, none, none, none] h2 := bE (aF (cB rfl rfl) q2)
  have e2 : EI [some S0, some w.enc, some (.ref (n + 1)), some (.ref 0), some (aB s), none, none, none, none, none, none] h2 = .nx (X18 S0 w (.ref (n + 1)) s k none none none none none) (h2 ++ g) := bE (aF (cB rfl (eU (dG rfl rfl))) (by rw [ls]; exact q3))
  obtain ⟨h3, hh3⟩ : ∃ h3, h3 = h2 ++ g := ⟨_, rfl⟩
  rw [← hh3] at e2 gk
  have hx3 : h3[0]? = some (.lst [.int x0]) := by rw [hh3]; exact fW _ hx2
  have p3 : 0 < h3.length := (List.getElem?_eq_some_iff.mp hx3).1
  have d4 := aT hx3 (show (0 : Int) < 4 by decide) (by decide)
  obtain ⟨h4, hh4⟩ : ∃ h4, h4 = h3.set 0 (.lst [.int (x0 / 4)]) := ⟨_, rfl⟩
  rw [← hh4] at d4
  have hx4 : h4[0]? = some (.lst [.int (x0 / 4)]) := by rw [hh4]; exact List.getElem?_set_self p3
  have k0 : 0 ≠ k := Nat.ne_of_lt (Nat.lt_of_lt_of_le (List.getElem?_eq_some_iff.mp hx2).1 o3)
  have main : ∃ (n' : Nat) (w' : Web) (s' : List Int) (o' : List Nat) (k' : Nat) (r' : Option D) (h' : Hd), EJ (X18 S0 w (.ref (n + 1)) s k none none none none none) h3 = .nx (X18 S0 w' (.ref (n + 1)) s' k' r' none none none none) h' ∧ Cf n' w' s' o' k' h' := by
    by_cases c : x0 % 4 = 1
    · obtain ⟨v, hv⟩ := EG ns 33 (by decide)
      have hv : ∀ h, aY [S0, .int 33] h = .ok (.int v) h := by rw [hS0]; exact hv
      obtain ⟨n7, w7, s7, h6, L7⟩ := Gm (h := h4 ++ [.lst [.int v]]) (B := h4.length) (x := v) (iq rfl _)
      have l4 : 0 < h4.length := (List.getElem?_eq_some_iff.mp hx4).1
      have hx6 : h6[0]? = some (.lst [.int (x0 / 4)]) := by
        rw [L7.old 0 (by rw [List.length_append]; exact Nat.lt_add_right _ l4) (Nat.ne_of_lt l4)]; exact fW _ hx4
      have n1 : 1 ≤ n7 := by have := L7.nn; have := Int.emod_nonneg v (show (28 : Int) ≠ 0 by decide); omega
      have ls7 : (s7.map D.int).length = n7 := by rw [List.length_map, L7.ft.len]
      obtain ⟨A, hA⟩ : ∃ A, A = h6.length := ⟨_, rfl⟩
      obtain ⟨R, hR⟩ : ∃ R, R = az (List.range n7) := ⟨_, rfl⟩
      obtain ⟨R', hR'⟩ : ∃ R', R' = az (List.range n7).reverse := ⟨_, rfl⟩
      have lR : R.length ≤ SZ := by rw [hR, fZ, List.length_range]; exact Cd L7.n30
      have rR : R.reverse = R' := by rw [hR, hR', az, az, List.map_reverse]
      obtain ⟨o', k', g', q', gk', p1, p2, p3'⟩ := wE ns n1 L7.n30 (h6 ++ [.lst R, .lst R'])
      rw [← hS0] at q'
      obtain ⟨h9, hh9⟩ : ∃ h9, h9 = (h6 ++ [.lst R, .lst R']) ++ g' := ⟨_, rfl⟩
      rw [← hh9] at q' gk'
      have hx9 : h9[0]? = some (.lst [.int (x0 / 4)]) := by rw [hh9]; exact fW _ (fW _ hx6)
      have d9 := aT hx9 (show (0 : Int) < 3 by decide) (by decide)
      obtain ⟨hz, hhz⟩ : ∃ hz, hz = h9.set 0 (.lst [.int (x0 / 4 / 3)]) := ⟨_, rfl⟩
      rw [← hhz] at d9
      obtain ⟨q, hq, q3'⟩ := um (x0 / 4) (m := 3) (by decide)
      have t1 : aH (gT [1, 4]) (aw eP (af (bo (af (aw aY (af (aa 0) (af (fC (.int 33)) av))) av)) av)) (X18 S0 w (.ref (n + 1)) s k none none none none none) h4 = .nx (X18 S0 w7 (.ref (n + 1)) s7 k none none none none none) h6 := by
        have : aw eP (af (bo (af (aw aY (af (aa 0) (af (fC (.int 33)) av))) av)) av) (X18 S0 w (.ref (n + 1)) s k none none none none none) h4 = .ok (.tup [w7.enc, aB s7]) h6 := aF (aJ (yC (aJ (aF (cB rfl rfl) (hv _)) rfl)) rfl) L7.run
        show outE _ _ _ = _
        rw [this]; rfl
      have t2 : aH (gN 6) (bo (D9 (ei (lOf (aa 4))))) (X18 S0 w7 (.ref (n + 1)) s7 k none none none none none) h6 = .nx (X18 S0 w7 (.ref (n + 1)) s7 k (some (.ref A)) none none none none) (h6 ++ [.lst R]) := by
        have : D9 (ei (lOf (aa 4))) (X18 S0 w7 (.ref (n + 1)) s7 k none none none none none) h6 = .ok R h6 := by
          show Res.bind (ei (lOf (aa 4)) _ h6) _ = _
          rw [eU (dG rfl rfl), ls7, aQ, hR]
          exact if_pos ⟨Int.natCast_nonneg _, Int.ofNat_le.mpr (Cd L7.n30)⟩
        exact bE (nr hA this lR)
      have rv : bo (BY (aa 6)) (X18 S0 w7 (.ref (n + 1)) s7 k (some (.ref A)) none none none none) (h6 ++ [.lst R]) = .ok (.ref (A + 1)) (h6 ++ [.lst R, .lst R']) := by
        have : BY (aa 6) (X18 S0 w7 (.ref (n + 1)) s7 k (some (.ref A)) none none none none) (h6 ++ [.lst R]) = .ok R' (h6 ++ [.lst R]) := by
          show (match bP (h6 ++ [bL.lst R]) (.ref A) with | some l => Res.ok l.reverse (h6 ++ [bL.lst R]) | none => .bad) = _
          have : bP (h6 ++ [bL.lst R]) (.ref A) = some R := by simp only [bP, iq hA]
          rw [this, ← rR]
        exact gz (g := [.lst R]) hA this (by rw [← rR, List.length_reverse]; exact lR)
      have pk : ∃ (k2 : Nat) (o2 : List Nat), atI [D.ref A, .ref (A + 1), .ref k'] (q : Int) = some (.ref k2) ∧ h9[k2]? = some (.lst (az o2)) ∧ (∀ p ∈ o2, p < n7) ∧ o2.length ≤ 60 ∧ 0 ≠ k2 := by
        have a0 : 0 < A := by rw [hA]; exact (List.getElem?_eq_some_iff.mp hx6).1
        have r1 : ∀ p ∈ List.range n7, p < n7 := fun p hp => List.mem_range.mp hp
        have r2 : (List.range n7).length ≤ 60 := by rw [List.length_range]; exact Cd L7.n30
        match q, q3' with
        | 0, _ => exact ⟨A, List.range n7, rfl, by rw [hh9, ← hR]; exact fW _ (cH hA 0), r1, r2, Nat.ne_of_lt a0⟩
        | 1, _ => exact ⟨A + 1, (List.range n7).reverse, rfl, by rw [hh9, ← hR']; exact fW _ (cH hA 1), fun p hp => r1 p (List.mem_reverse.mp hp), by rw [List.length_reverse]; exact r2, Nat.ne_of_lt (Nat.succ_pos A)⟩
        | 2, _ => exact ⟨k', o', rfl, gk', p1, p2, Nat.ne_of_lt (Nat.lt_of_lt_of_le (by rw [List.length_append, ← hA]; exact Nat.lt_add_right _ a0) p3')⟩
        | q + 3, z => exact absurd z (Nat.not_lt.mpr (Nat.le_add_left 3 q))
      obtain ⟨k2, o2, ak, hk2, z1, z2, z3⟩ := pk
      have t3 : aH (gN 5) (fIx (af (aa 6) (af (bo (BY (aa 6))) (af (aw dc (af (aa 0) (af (ei (lOf (aa 4))) av))) av))) (aw ar (af (aa 3) (af (fC (.int 3)) av)))) (X18 S0 w7 (.ref (n + 1)) s7 k (some (.ref A)) none none none none) (h6 ++ [.lst R]) = .nx (X18 S0 w7 (.ref (n + 1)) s7 k2 (some (.ref A)) none none none none) hz := by
        have od : aw dc (af (aa 0) (af (ei (lOf (aa 4))) av)) (X18 S0 w7 (.ref (n + 1)) s7 k (some (.ref A)) none none none none) (h6 ++ [.lst R, .lst R']) = .ok (.ref k') h9 := aF (cB rfl (eU (dG rfl rfl))) (by rw [ls7]; exact q')
        exact bE (GX (aJ rfl (cB rv od)) (aF (cB rfl rfl) d9) (by show atI _ (x0 / 4 % ((3 : Nat) : Int)) = _; rw [hq]; exact ak))
      refine ⟨n7, w7, s7, o2, k2, _, hz, (pQ (bu (aO (aF (cB rfl rfl) d4) rfl (Eo c)))).trans ((aX t1).trans ((aX t2).trans t3)), ⟨n1, L7.n30, L7.ok, L7.st, L7.ft, L7.sym, L7.ns, z1, z2, ?_⟩⟩
      rw [hhz, List.getElem?_set_ne z3]; exact hk2
    · refine ⟨n, w, s, o, k, none, h4, eZ (bu (aO (aF (cB rfl rfl) d4) rfl (Ep c))), ⟨O.n1, hn, W, O.st, F, O.sym, O.ns, o1, o2, ?_⟩⟩
      rw [hh4, List.getElem?_set_ne k0]; exact gk
  obtain ⟨n', w', s', o', k', r', h', e3, C⟩ := main
  obtain ⟨h9, e4⟩ := Gu C ns (.ref (n + 1)) r'
  rw [← hS0] at e4 ⊢
  exact ⟨[], (cU (σ := [some S0, none, none, none, none, none, none, none, none, none, none]) rfl rfl ((aX e0).trans ((aX e1).trans ((aX e2).trans ((aX e3).trans e4))))).trans (el (h := []) (g := h9) rfl)⟩
end Fm
set_option Elab.async false
set_option linter.all false
set_option maxRecDepth 100000
set_option maxHeartbeats 4000000
namespace Fm
open PySem PySem.Spec L2
section
abbrev dN (i : Nat) : Stmt := PySem.Challenge.pw_followmost_k18_settled_by_an_order.main.body.getD i (.Pass ⟨0, 0, 0, 0⟩)
abbrev eA : Stmt := dN 12
abbrev de : Stmt := dN 13
abbrev df : Stmt := dN 14
abbrev fF : Stmt := dN 16
abbrev fG : Stmt := dN 17
abbrev hJ : Stmt := dN 18
abbrev fH : Stmt := dN 19
abbrev eB : Stmt := dN 20
abbrev fI : Stmt := dN 21
abbrev lO : Stmt := dN 23
abbrev cP : Stmt := dN 24
abbrev fJ : Stmt := dN 25
abbrev fK : Stmt := dN 26
abbrev cQ : Stmt := dN 29
abbrev dg : Stmt := dN 30
abbrev fL : Stmt := dN 31
abbrev fM : Stmt := dN 28
abbrev dW : Stmt := dN 33
abbrev dX : Stmt := dN 34
abbrev dh : Stmt := dN 35
abbrev cR : Stmt := dN 36
abbrev eC : Stmt := dN 37
abbrev eD : Stmt := dN 38
abbrev dY : Stmt := dN 39
abbrev dj : Stmt := dN 40
abbrev dk : Stmt := dN 41
abbrev dl : Stmt := dN 42
abbrev eE : Stmt := dN 43
abbrev dZ : Stmt := dN 44
abbrev fN : Stmt := dN 45
abbrev kL : Stmt := dN 46
variable {P : Program} {w : World} {K : PySem.W.Frag} {mg : Str → Option Value} {base : Heap} {f : Addr} {fd : FuncData}
theorem wM : aR ["thing"] ["thing"] (aj eA) := ⟨rfl, rfl, rfl, by decide +kernel, rfl, by decide +kernel, by decide +kernel⟩
theorem wN (F : Fun K "is_whole" "is_whole" eA f fd) (aK : mg "isinstance" = none) (lP : mg "bool" = none) (iQ : mg "int" = none) : ce P w K mg base CX0 1 f fd ["thing"] (spF K dH 1) := by
  refine cA F wM fun cdv A outer s H E hr => ?_
  have hu := dF hr
  exact (aq (aL (MB.me (DK (A8 (gv (t := .int) rfl aK rfl iQ (by decide +kernel) (mv 0))) (DJ (HI (A8 (gv (t := .bool) rfl aK rfl lP (by decide +kernel) (mv 0)))))))))
theorem pS : aR ["thing", "least", "most"] ["thing", "least", "most"] (aj de) := ⟨rfl, rfl, rfl, by decide +kernel, rfl, by decide +kernel, by decide +kernel⟩
theorem pT (F : Fun K "is_between" "is_between" de f fd) (ka : Def P w K mg base "is_whole" 1 1 dH) : ce P w K mg base CX0 2 f fd ["thing", "least", "most"] (spF K eg 3) := by
  refine cA F pS fun cdv A outer s H E hr => ?_
  have hu := dF hr
  exact (aq (aL (MB.me (DK (A8 (ax ka (hr.mono (by decide)) rfl (ae (mv 0) am) ay)) (DJ (A8 (DM GN GN m6 m6 (mv 1) (mv 0) (mv 2))))))))
theorem pU : aR ["thing"] ["thing"] (aj df) := ⟨rfl, rfl, rfl, by decide +kernel, rfl, by decide +kernel, by decide +kernel⟩
theorem pV (F : Fun K "is_opinion" "is_opinion" df f fd) (iz : Def P w K mg base "is_between" 2 3 eg) : ce P w K mg base CX0 3 f fd ["thing"] (spF K bI 1) := by
  refine cA F pU fun cdv A outer s H E hr => ?_
  have hu := dF hr
  exact (aq (aL (ax iz (hr.mono (by decide)) rfl (ae (mv 0) (ae ah (ae ah am))) ay)))
theorem yW : aR ["web"] ["web"] (aj fF) := ⟨rfl, rfl, rfl, by decide +kernel, rfl, by decide +kernel, by decide +kernel⟩
theorem yX (F : Fun K "many_of" "many_of" fF f fd) (bQ : mg "len" = none) : ce P w K mg base CX0 1 f fd ["web"] (spF K dS 1) := by
  refine cA F yW fun cdv A outer s H E hr => ?_
  have hu := dF hr
  exact (aq (aL (d5 rfl bQ (cL (bg (mv 0) ah (fun _ _ => rfl))))))
theorem yY : aR ["web", "person"] ["web", "person"] (aj fG) := ⟨rfl, rfl, rfl, by decide +kernel, rfl, by decide +kernel, by decide +kernel⟩
theorem yZ (F : Fun K "ties_of" "ties_of" fG f fd) : ce P w K mg base CX0 1 f fd ["web", "person"] (spF K g8 2) := by
  refine cA F yY fun cdv A outer s H E hr => ?_
  have hu := dF hr
  exact (aq (aL (bg (bg (mv 0) ah (fun _ _ => rfl)) (mv 1) (fun _ _ => rfl))))
theorem Ct : aR ["web", "person"] ["web", "person"] (aj hJ) := ⟨rfl, rfl, rfl, by decide +kernel, rfl, by decide +kernel, by decide +kernel⟩
theorem Cu (F : Fun K "bar_of" "bar_of" hJ f fd) : ce P w K mg base CX0 1 f fd ["web", "person"] (spF K i4 2) := by
  refine cA F Ct fun cdv A outer s H E hr => ?_
  have hu := dF hr
  exact (aq (aL (bg (bg (mv 0) ah (fun _ _ => rfl)) (mv 1) (fun _ _ => rfl))))
theorem y0 : aR ["web", "person"] ["web", "person"] (aj fH) := ⟨rfl, rfl, rfl, by decide +kernel, rfl, by decide +kernel, by decide +kernel⟩
theorem y4 (F : Fun K "stay_of" "stay_of" fH f fd) : ce P w K mg base CX0 1 f fd ["web", "person"] (spF K en 2) := by
  refine cA F y0 fun cdv A outer s H E hr => ?_
  have hu := dF hr
  exact (aq (aL (bg (bg (mv 0) ah (fun _ _ => rfl)) (mv 1) (fun _ _ => rfl))))
theorem wO : aR ["web"] ["web"] (aj eB) := ⟨rfl, rfl, rfl, by decide +kernel, rfl, by decide +kernel, by decide +kernel⟩
theorem wP (F : Fun K "stays_of" "stays_of" eB f fd) (c9 : mg "list" = none) : ce P w K mg base CX0 1 f fd ["web"] (spF K cw 1) := by
  refine cA F wO fun cdv A outer s H E hr => ?_
  have hu := dF hr
  exact (aq (aL (bJ (jq rfl c9 (cL (bg (mv 0) ah (fun _ _ => rfl)))))))
theorem y6 : aR ["web"] ["web"] (aj fI) := ⟨rfl, rfl, rfl, by decide +kernel, rfl, by decide +kernel, by decide +kernel⟩
theorem y8 (F : Fun K "free_of" "free_of" fI f fd) (cm : mg "enumerate" = none) (kb : Def P w K mg base "stays_of" 1 1 cw) : ce P w K mg base CX0 2 f fd ["web"] (spF K fA 1) := by
  refine cA F y6 fun cdv A outer s H E hr => ?_
  have hu := dF hr
  exact (aq (aL (bJ (Eb (own := ["person", "stay"]) (capn := []) (caps := []) rfl (bR.mk' rfl (by decide +kernel) (by decide +kernel) (by repeat' (first | exact aZ.nil | refine aZ.cons (by first | exact (fun _ => .inl rfl) | exact (fun _ => .inr rfl) | (intro z; cases z; done)) ?_)) bX.nil) (wb rfl cm (ax kb (hr.mono (by decide)) rfl (ae (mv 0) am) ay))
      (fun cl C s H ex => ⟨(gK rfl (bn (aI (i := 0) (show ((["person", "stay"] : List Str) ++ ([] : List Str)).Nodup by decide +kernel) rfl (by first | exact .inl rfl | exact .inr rfl)) (bn (aI (i := 1) (show ((["person", "stay"] : List Str) ++ ([] : List Str)).Nodup by decide +kernel) rfl (by first | exact .inl rfl | exact .inr rfl)) eI))), (kv (a5 nD nO (mv 1) cG (a4 _))), (mv 0)⟩)))))
theorem nz : aR ["web", "thing", "person", "opinion", "stay"] ["web", "thing"] (aj lO) := ⟨rfl, rfl, rfl, by decide +kernel, rfl, by decide +kernel, by decide +kernel⟩
theorem Gv (F : Fun K "fits" "fits" lO f fd) (cm : mg "enumerate" = none) (bQ : mg "len" = none) (aK : mg "isinstance" = none) (bf : mg "tuple" = none) (hU : Def P w K mg base "stay_of" 1 2 en) (iA : Def P w K mg base "is_opinion" 3 1 bI) (lQ : Def P w K mg base "many_of" 1 1 dS) : ce P w K mg base CX0 4 f fd ["web", "thing"] (spF K dI 2) := by
  refine cA F nz fun cdv A outer s H E hr => ?_
  have hu := dF hr
  exact (ag (b5 (MW.mt (nQ (ig (ej (gv (t := .tuple) rfl aK rfl bf (by decide +kernel) (mv 1)))) (gH (a5 (eT hu) iO (d5 rfl bQ (cL (mv 1))) (ax lQ (hr.mono (by decide)) rfl (ae (mv 0) am) ay) (a4 _)) (.inr rfl)))) (aq (aL iV)) a7)
    (ag (ek PassesOwn.never rfl (FL rfl cm (mv 1)) (gK rfl (bn (aI (i := 2) nz.nd rfl (by first | exact .inl rfl | exact .inr rfl)) (bn (aI (i := 3) nz.nd rfl (by first | exact .inl rfl | exact .inr rfl)) eI))) (ag (b5 (ig (ej (ax iA (hr.mono (by decide)) rfl (ae (mv 3) am) ay))) (aq (aL iV)) a7)
    (ag (aE (i := 4) nz.nd rfl (by first | exact .inl rfl | exact .inr rfl) (ax hU (hr.mono (by decide)) rfl (ae (mv 0) (ae (mv 2) am)) ay))
    (aq (b5 (MW.mt (nP (a5 tF lw (mv 4) cG (a4 _)) (gH (a5 (eT hu) iO (mv 3) (mv 4) (a4 _)) (.inl rfl)))) (aq (aL iV)) a7)))))
    (aq (aL iV))))
theorem oA : aR ["web", "thing"] ["web", "thing"] (aj cP) := ⟨rfl, rfl, rfl, by decide +kernel, rfl, by decide +kernel, by decide +kernel⟩
theorem za : aR ["web", "stand", "person"] ["web", "stand", "person"] (aj fJ) := ⟨rfl, rfl, rfl, by decide +kernel, rfl, by decide +kernel, by decide +kernel⟩
theorem zb (F : Fun K "pull_at" "pull_at" fJ f fd) (iR : mg "sum" = none) (lS : Def P w K mg base "ties_of" 1 2 g8) : ce P w K mg base CX0 2 f fd ["web", "stand", "person"] (spF K fq 3) := by
  refine cA F za fun cdv A outer s H E hr => ?_
  have hu := dF hr
  exact (aq (aL (aM dB dD ah (tR rfl rfl iR (gI (eX (own := ["other", "weight"]) (capn := ["stand"]) (caps := [1]) rfl (bR.mk' rfl (by decide +kernel) (by decide +kernel) (by repeat' (first | exact aZ.nil | refine aZ.cons (by first | exact (fun _ => .inl rfl) | exact (fun _ => .inr rfl) | (intro z; cases z; done)) ?_)) (bX.cons rfl rfl bX.nil)) (ec (ax lS (hr.mono (by decide)) rfl (ae (mv 0) (ae (mv 2) am)) ay))
      (fun cl C s H ex => ⟨(gK rfl (bn (aI (i := 0) (show ((["other", "weight"] : List Str) ++ (["stand"] : List Str)).Nodup by decide +kernel) rfl (by first | exact .inl rfl | exact .inr rfl)) (bn (aI (i := 1) (show ((["other", "weight"] : List Str) ++ (["stand"] : List Str)).Nodup by decide +kernel) rfl (by first | exact .inl rfl | exact .inr rfl)) eI))), (kv (a5 (gJ hu) jC (bg (mv 2) (mv 0) (fun _ _ => rfl)) ah (a4 _))), (mv 1)⟩)))))))
theorem iy : aR ["web", "stand", "person", "stay", "strength", "bar"] ["web", "stand", "person"] (aj fK) := ⟨rfl, rfl, rfl, by decide +kernel, rfl, by decide +kernel, by decide +kernel⟩
theorem zc (F : Fun K "next_at" "next_at" fK f fd) (oE : Def P w K mg base "bar_of" 1 2 i4) (lU : Def P w K mg base "pull_at" 2 3 fq) (hU : Def P w K mg base "stay_of" 1 2 en) : ce P w K mg base CX0 3 f fd ["web", "stand", "person"] (spF K cO 3) := by
  refine cA F iy fun cdv A outer s H E hr => ?_
  have hu := dF hr
  exact (ag (aE (i := 3) iy.nd rfl (by first | exact .inl rfl | exact .inr rfl) (ax hU (hr.mono (by decide)) rfl (ae (mv 0) (ae (mv 2) am)) ay))
    (ag (b5 (a5 tF lw (mv 3) cG (a4 _)) (aq (aL (mv 3))) a7)
    (ag (aE (i := 4) iy.nd rfl (by first | exact .inl rfl | exact .inr rfl) (ax lU (hr.mono (by decide)) rfl (ae (mv 0) (ae (mv 1) (ae (mv 2) am))) ay))
    (ag (aE (i := 5) iy.nd rfl (by first | exact .inl rfl | exact .inr rfl) (ax oE (hr.mono (by decide)) rfl (ae (mv 0) (ae (mv 2) am)) ay))
    (ag (b5 (a5 (gJ hu) jC (mv 4) (mv 5) (a4 _)) (aq (aL (bg (mv 1) (mv 2) (fun _ _ => rfl)))) a7)
    (aq (aL (Jp (a5 rK m6 (mv 4) (mv 5) (a4 _)) ah ah))))))))
theorem i8 : aR ["web", "order", "person"] ["web", "order"] (aj cQ) := ⟨rfl, rfl, rfl, by decide +kernel, rfl, by decide +kernel, by decide +kernel⟩
theorem cS : aR ["web", "stand", "order", "held", "changes", "place", "person", "opinion"] ["web", "stand", "order"] (aj dg) := ⟨rfl, rfl, rfl, by decide +kernel, rfl, by decide +kernel, by decide +kernel⟩
theorem pW (F : Fun K "changes_at" "changes_at" dg f fd) (cm : mg "enumerate" = none) (c9 : mg "list" = none) (lV : Def P w K mg base "next_at" 3 3 cO) : ce P w K mg base CX0 4 f fd ["web", "stand", "order"] (spF K bV 3) := by
  refine cA F cS fun cdv A outer s H E hr => ?_
  have hu := dF hr
  exact (ag (aE (i := 3) cS.nd rfl (by first | exact .inl rfl | exact .inr rfl) (bJ (jq rfl c9 (cL (mv 1)))))
    (ag (aE (i := 4) cS.nd rfl (by first | exact .inl rfl | exact .inr rfl) (bJ (cf am (fun _ _ _ _ z => by rw [bj _ _ _ _ z]; decide))))
    (ag (FU PassesOwn.never rfl (wb rfl cm (mv 2)) (gK rfl (bn (aI (i := 5) cS.nd rfl (by first | exact .inl rfl | exact .inr rfl)) (bn (aI (i := 6) cS.nd rfl (by first | exact .inl rfl | exact .inr rfl)) eI))) (ag (aE (i := 7) cS.nd rfl (by first | exact .inl rfl | exact .inr rfl) (ax lV (hr.mono (by decide)) rfl (ae (mv 0) (ae (mv 3) (ae (mv 6) am))) ay))
    (aq (b5 (a5 (eT hu) iO (mv 7) (bg (mv 3) (mv 6) (fun _ _ => rfl)) (a4 _)) (ag (tS (mv 7) (mv 3) (mv 6))
    (aq (eJ (iX (mv 4) (dE (ae (mv 5) (ae (mv 6) (ae (mv 7) am)))))))) a7))))
    (aq (aL (mv 4))))))
theorem gc : aR ["stand", "changes", "held", "place", "person", "opinion"] ["stand", "changes"] (aj fL) := ⟨rfl, rfl, rfl, by decide +kernel, rfl, by decide +kernel, by decide +kernel⟩
theorem zd (F : Fun K "changed" "changed" fL f fd) (bf : mg "tuple" = none) (c9 : mg "list" = none) : ce P w K mg base CX0 1 f fd ["stand", "changes"] (spF K er 2) := by
  refine cA F gc fun cdv A outer s H E hr => ?_
  have hu := dF hr
  exact (ag (aE (i := 2) gc.nd rfl (by first | exact .inl rfl | exact .inr rfl) (bJ (jq rfl c9 (cL (mv 0)))))
    (ag (ek PassesOwn.never rfl (ec (mv 1)) (gK rfl (bn (aI (i := 3) gc.nd rfl (by first | exact .inl rfl | exact .inr rfl)) (bn (aI (i := 4) gc.nd rfl (by first | exact .inl rfl | exact .inr rfl)) (bn (aI (i := 5) gc.nd rfl (by first | exact .inl rfl | exact .inr rfl)) eI)))) (aq (tS (mv 5) (mv 2) (mv 4))))
    (aq (aL (d8 rfl bf (cL (mv 2)))))))
theorem dP : aR ["web", "stand", "order", "rounds", "held", "changes"] ["web", "stand", "order"] (aj fM) := ⟨rfl, rfl, rfl, by decide +kernel, rfl, by decide +kernel, by decide +kernel⟩
theorem bW : aR ["_law_script", "_law_k", "_law_seed", "_law_found", "_law_j", "_law_number"] ["_law_script", "_law_k"] (aj dW) := ⟨rfl, rfl, rfl, by decide +kernel, rfl, by decide +kernel, by decide +kernel⟩
theorem ur (F : Fun K "_law_wide" "_law_wide" dW f fd) (bc : mg "range" = none) (bQ : mg "len" = none) : ce P w K mg base CX0 1 f fd ["_law_script", "_law_k"] (spF K cC 2) := by
  refine cA F bW fun cdv A outer s H E hr => ?_
  have hu := dF hr
  exact (ag (aE (i := 2) bW.nd rfl (by first | exact .inl rfl | exact .inr rfl) ah)
    (ag (b5 (a5 rK m6 (d5 rfl bQ (cL (mv 0))) ah (a4 _)) (aq (aE (i := 2) bW.nd rfl (by first | exact .inl rfl | exact .inr rfl) (aM fQ fS (bg (mv 0) (aM fQ fS (mv 1) (d5 rfl bQ (cL (mv 0)))) (fun _ _ => rfl)) ah))) a7)
    (ag (aE (i := 3) bW.nd rfl (by first | exact .inl rfl | exact .inr rfl) ah)
    (ag (ek PassesOwn.never rfl (ck rfl bc ah) (aI (i := 4) bW.nd rfl (by first | exact .inl rfl | exact .inr rfl)) (ag (aE (i := 5) bW.nd rfl (by first | exact .inl rfl | exact .inr rfl) (aM fQ fS (aM dB dD (aM bH b7 (aM bH b7 (aM bH b7 (mv 2) (aM dB dD ah (mv 1))) (aM dB dD (mv 4) (mv 4))) ah) ah) ah))
    (ag (aE (i := 5) bW.nd rfl (by first | exact .inl rfl | exact .inr rfl) (aM fQ fS (aM dB dD (aM bH b7 (mv 5) ah) (aM bH b7 (aM bH b7 (mv 5) (mv 4)) ah)) ah))
    (ag (aE (i := 5) bW.nd rfl (by first | exact .inl rfl | exact .inr rfl) (aM fQ fS (aM dB dD (aM bH b7 (mv 5) (mv 1)) ah) ah))
    (aq (aE (i := 3) bW.nd rfl (by first | exact .inl rfl | exact .inr rfl) (aM bH b7 (aM dB dD (mv 3) ah) (aM fQ fS (aM dB dD (mv 5) (aM bH b7 (mv 5) ah)) ah))))))))
    (aq (aL (mv 3)))))))
theorem ut : aR ["_law_script", "_law_k"] ["_law_script", "_law_k"] (aj dX) := ⟨rfl, rfl, rfl, by decide +kernel, rfl, by decide +kernel, by decide +kernel⟩
theorem uu (F : Fun K "_law_cell" "_law_cell" dX f fd) (bQ : mg "len" = none) (eR : Def P w K mg base "_law_wide" 1 2 cC) : ce P w K mg base CX0 2 f fd ["_law_script", "_law_k"] (spF K aY 2) := by
  refine cA F ut fun cdv A outer s H E hr => ?_
  have hu := dF hr
  exact (ag (b5 (MW.mt (nP (a5 AZ m6 (mv 1) (d5 rfl bQ (cL (mv 0))) (a4 _)) (gH (a5 (gJ hu) jC (aM fQ fS (bg (mv 0) ah (fun _ _ => rfl)) ah) ah (a4 _)) (.inl rfl)))) (aq (aL (bg (mv 0) (mv 1) (fun _ _ => rfl)))) a7)
    (aq (aL (ax eR (hr.mono (by decide)) rfl (ae (mv 0) (ae (mv 1) am)) ay))))
theorem jD : aR ["_law_state", "_law_most", "_law_found"] ["_law_state", "_law_most"] (aj dh) := ⟨rfl, rfl, rfl, by decide +kernel, rfl, by decide +kernel, by decide +kernel⟩
theorem pX (F : Fun K "_law_digit" "_law_digit" dh f fd) : ce P w K mg base CX0 1 f fd ["_law_state", "_law_most"] (spF K ar 2) := by
  refine cA F jD fun cdv A outer s H E hr => ?_
  have hu := dF hr
  exact (ag (aE (i := 2) jD.nd rfl (by first | exact .inl rfl | exact .inr rfl) (aM fQ fS (bg (mv 0) ah (fun _ _ => rfl)) (mv 1)))
    (ag (tS (aM vR DI (bg (mv 0) ah (fun _ _ => rfl)) (mv 1)) (mv 0) ah)
    (aq (aL (mv 2)))))
theorem i9 : aR ["_law_state", "_law_sort", "_law_number"] ["_law_state", "_law_sort"] (aj cR) := ⟨rfl, rfl, rfl, by decide +kernel, rfl, by decide +kernel, by decide +kernel⟩
theorem oC (F : Fun K "_law_weight" "_law_weight" cR f fd) (iQ : mg "int" = none) (au : Def P w K mg base "_law_digit" 1 2 ar) : ce P w K mg base CX0 2 f fd ["_law_state", "_law_sort"] (spF K cI 2) := by
  refine cA F i9 fun cdv A outer s H E hr => ?_
  have hu := dF hr
  exact (ag (b5 (a5 (gJ hu) jC (mv 1) ah (a4 _)) (ag (aE (i := 2) i9.nd rfl (by first | exact .inl rfl | exact .inr rfl) (ax au (hr.mono (by decide)) rfl (ae (mv 0) (ae ah am)) ay))
    (aq (aL (aM dB dD (mv 2) (Ba rfl iQ (ym AZ m6 (mv 2) ah (a4 _))))))) a7)
    (ag (b5 (a5 (gJ hu) jC (mv 1) ah (a4 _)) (aq (aL (rY (cf (ae ah (ae ah (ae ah (ae ah (ae ah (ae ah (ae ah (ae ah (ae ah am))))))))) (fun _ _ _ _ z => by rw [(aA (aA (aA (aA (aA (aA (aA (aA (aA bj))))))))) _ _ _ _ z]; decide)) (ax au (hr.mono (by decide)) rfl (ae (mv 0) (ae ah am)) ay) (fun _ _ => rfl)))) a7)
    (aq (aL (rY (cf (ae ah (ae ah (ae ah (ae ah am)))) (fun _ _ _ _ z => by rw [(aA (aA (aA (aA bj)))) _ _ _ _ z]; decide)) (ax au (hr.mono (by decide)) rfl (ae (mv 0) (ae ah am)) ay) (fun _ _ => rfl))))))
theorem mG : aR ["_law_state", "_law_total", "_law_way"] ["_law_state", "_law_total"] (aj eC) := ⟨rfl, rfl, rfl, by decide +kernel, rfl, by decide +kernel, by decide +kernel⟩
theorem wQ (F : Fun K "_law_bar" "_law_bar" eC f fd) (au : Def P w K mg base "_law_digit" 1 2 ar) : ce P w K mg base CX0 2 f fd ["_law_state", "_law_total"] (spF K eK 2) := by
  refine cA F mG fun cdv A outer s H E hr => ?_
  have hu := dF hr
  exact (ag (aE (i := 2) mG.nd rfl (by first | exact .inl rfl | exact .inr rfl) (ax au (hr.mono (by decide)) rfl (ae (mv 0) (ae ah am)) ay))
    (ag (b5 (a5 AZ m6 (mv 2) ah (a4 _)) (aq (aL (mv 1))) a7)
    (ag (b5 (a5 (gJ hu) jC (mv 2) ah (a4 _)) (aq (aL (aM bH b7 (aM li yn (mv 1) ah) (ax au (hr.mono (by decide)) rfl (ae (mv 0) (ae ah am)) ay)))) a7)
    (ag (b5 (a5 AZ m6 (mv 2) ah (a4 _)) (aq (aL (aM li yn (ax au (hr.mono (by decide)) rfl (ae (mv 0) (ae (aM bH b7 (aM dB dD ah (mv 1)) ah) am)) ay) ah))) a7)
    (aq (aL (aM bH b7 (aM li yn (ax au (hr.mono (by decide)) rfl (ae (mv 0) (ae (aM li yn (aM dB dD ah (aM yf yo ah ah)) ah) am)) ay) (aM yf yo ah ah)) ah)))))))
theorem bq : aR ["_law_script", "_law_head", "_law_many", "_law_states", "_law_ties", "_law_k", "_law_sort", "_law_j", "_law_heavy", "_law_bars", "_law_stays", "_law_stay"] ["_law_script"] (aj eD) := ⟨rfl, rfl, rfl, by decide +kernel, rfl, by decide +kernel, by decide +kernel⟩
theorem wR (F : Fun K "_law_web" "_law_web" eD f fd) (bf : mg "tuple" = none) (hV : mg "sorted" = none) (bc : mg "range" = none) (iR : mg "sum" = none) (au : Def P w K mg base "_law_digit" 1 2 ar) (kc : Def P w K mg base "_law_bar" 2 2 eK) (gO : Def P w K mg base "_law_weight" 2 2 cI) (cq : Def P w K mg base "_law_cell" 2 2 aY) : ce P w K mg base CX0 3 f fd ["_law_script"] (spF K jv 1) := by
  refine cA F bq fun cdv A outer s H E hr => ?_
  have hu := dF hr
  exact (ag (aE (i := 1) bq.nd rfl (by first | exact .inl rfl | exact .inr rfl) (bJ (cf (ae (aM vR DI (ax cq (hr.mono (by decide)) rfl (ae (mv 0) (ae ah am)) ay) ah) am) (fun _ _ _ _ z => by rw [(aA bj) _ _ _ _ z]; decide))))
    (ag (aE (i := 2) bq.nd rfl (by first | exact .inl rfl | exact .inr rfl) (aM bH b7 ah (ax au (hr.mono (by decide)) rfl (ae (mv 1) (ae (rY (cf (ae ah (ae ah (ae ah (ae ah am)))) (fun _ _ _ _ z => by rw [(aA (aA (aA (aA bj)))) _ _ _ _ z]; decide)) (ax au (hr.mono (by decide)) rfl (ae (mv 1) (ae ah am)) ay) (fun _ _ => rfl)) am)) ay)))
    (ag (jo (i := 3) bq.nd rfl (by first | exact .inl rfl | exact .inr rfl) (own := ["_law_k"]) (capn := ["_law_script"]) (caps := [0]) rfl (bR.mk' rfl (by decide +kernel) (by decide +kernel) (by repeat' (first | exact aZ.nil | refine aZ.cons (by first | exact (fun _ => .inl rfl) | exact (fun _ => .inr rfl) | (intro z; cases z; done)) ?_)) (bX.cons rfl rfl bX.nil)) (ck rfl bc (mv 2))
      (fun cl C s H ex => ⟨(aI (i := 0) (show ((["_law_k"] : List Str) ++ (["_law_script"] : List Str)).Nodup by decide +kernel) rfl (by first | exact .inl rfl | exact .inr rfl)), ed, (bJ (cf (ae (ax cq (hr.mono (by decide)) rfl (ae (mv 1) (ae (aM bH b7 ah (mv 0)) am)) ay) am) (fun _ _ _ _ z => by rw [(aA bj) _ _ _ _ z]; decide)))⟩))
    (ag (jo (i := 4) bq.nd rfl (by first | exact .inl rfl | exact .inr rfl) (own := ["_law_k"]) (capn := []) (caps := []) rfl (bR.mk' rfl (by decide +kernel) (by decide +kernel) (by repeat' (first | exact aZ.nil | refine aZ.cons (by first | exact (fun _ => .inl rfl) | exact (fun _ => .inr rfl) | (intro z; cases z; done)) ?_)) bX.nil) (ck rfl bc (mv 2))
      (fun cl C s H ex => ⟨(aI (i := 0) (show ((["_law_k"] : List Str) ++ ([] : List Str)).Nodup by decide +kernel) rfl (by first | exact .inl rfl | exact .inr rfl)), ed, (bJ (cf am (fun _ _ _ _ z => by rw [bj _ _ _ _ z]; decide)))⟩))
    (ag (ek PassesOwn.never rfl (ck rfl bc (mv 2)) (aI (i := 5) bq.nd rfl (by first | exact .inl rfl | exact .inr rfl)) (ag (aE (i := 6) bq.nd rfl (by first | exact .inl rfl | exact .inr rfl) (ax au (hr.mono (by decide)) rfl (ae (bg (mv 3) (mv 5) (fun _ _ => rfl)) (ae ah am)) ay))
    (aq (ek PassesOwn.never rfl (ck rfl bc (mv 5)) (aI (i := 7) bq.nd rfl (by first | exact .inl rfl | exact .inr rfl)) (ag (aE (i := 8) bq.nd rfl (by first | exact .inl rfl | exact .inr rfl) (ax gO (hr.mono (by decide)) rfl (ae (bg (mv 3) (mv 5) (fun _ _ => rfl)) (ae (mv 6) am)) ay))
    (aq (b5 (a5 rK m6 (mv 8) ah (a4 _)) (ag (eJ (iX (bg (mv 4) (mv 5) (fun _ _ => rfl)) (dE (ae (mv 7) (ae (mv 8) am)))))
    (aq (eJ (iX (bg (mv 4) (mv 7) (fun _ _ => rfl)) (dE (ae (mv 5) (ae (mv 8) am))))))) a7)))))))
    (ag (aE (i := 9) bq.nd rfl (by first | exact .inl rfl | exact .inr rfl) (bJ (cf am (fun _ _ _ _ z => by rw [bj _ _ _ _ z]; decide))))
    (ag (aE (i := 10) bq.nd rfl (by first | exact .inl rfl | exact .inr rfl) (bJ (cf am (fun _ _ _ _ z => by rw [bj _ _ _ _ z]; decide))))
    (ag (ek PassesOwn.never rfl (ck rfl bc (mv 2)) (aI (i := 5) bq.nd rfl (by first | exact .inl rfl | exact .inr rfl)) (ag (eJ (iX (mv 9) (ax kc (hr.mono (by decide)) rfl (ae (bg (mv 3) (mv 5) (fun _ _ => rfl)) (ae (tR rfl rfl iR (gI (eX (own := ["_law_other", "_law_heavy"]) (capn := []) (caps := []) rfl (bR.mk' rfl (by decide +kernel) (by decide +kernel) (by repeat' (first | exact aZ.nil | refine aZ.cons (by first | exact (fun _ => .inl rfl) | exact (fun _ => .inr rfl) | (intro z; cases z; done)) ?_)) bX.nil) (ec (bg (mv 4) (mv 5) (fun _ _ => rfl)))
      (fun cl C s H ex => ⟨(gK rfl (bn (aI (i := 0) (show ((["_law_other", "_law_heavy"] : List Str) ++ ([] : List Str)).Nodup by decide +kernel) rfl (by first | exact .inl rfl | exact .inr rfl)) (bn (aI (i := 1) (show ((["_law_other", "_law_heavy"] : List Str) ++ ([] : List Str)).Nodup by decide +kernel) rfl (by first | exact .inl rfl | exact .inr rfl)) eI))), ed, (mv 1)⟩)))) am)) ay)))
    (ag (aE (i := 11) bq.nd rfl (by first | exact .inl rfl | exact .inr rfl) (rY (cf (ae cG (ae cG (ae cG (ae cG (ae cG (ae ah (ae ah am))))))) (fun _ _ _ _ z => by rw [(aA (aA (aA (aA (aA (aA (aA bj))))))) _ _ _ _ z]; decide)) (ax au (hr.mono (by decide)) rfl (ae (bg (mv 3) (mv 5) (fun _ _ => rfl)) (ae ah am)) ay) (fun _ _ => rfl)))
    (ag (b5 (MW.mt (nP (a5 nD nO (mv 11) cG (a4 _)) (gH (a5 rK m6 (D4 (mv 10) cG) ah (a4 _)) (.inl rfl)))) (aq (aE (i := 11) bq.nd rfl (by first | exact .inl rfl | exact .inr rfl) (ax au (hr.mono (by decide)) rfl (ae (bg (mv 3) (mv 5) (fun _ _ => rfl)) (ae ah am)) ay))) a7)
    (aq (eJ (iX (mv 10) (mv 11))))))))
    (aq (aL (dE (ae (dE (ae (d8 rfl bf (gI (eX (own := ["_law_some"]) (capn := []) (caps := []) rfl (bR.mk' rfl (by decide +kernel) (by decide +kernel) (by repeat' (first | exact aZ.nil | refine aZ.cons (by first | exact (fun _ => .inl rfl) | exact (fun _ => .inr rfl) | (intro z; cases z; done)) ?_)) bX.nil) (ec (mv 4))
      (fun cl C s H ex => ⟨(aI (i := 0) (show ((["_law_some"] : List Str) ++ ([] : List Str)).Nodup by decide +kernel) rfl (by first | exact .inl rfl | exact .inr rfl)), ed, (d8 rfl bf (gI (D1 rfl hV (mv 0))))⟩)))) (ae (d8 rfl bf (cL (mv 9))) (ae (d8 rfl bf (cL (mv 10))) am)))) (ae (mv 3) (ae (mv 1) am))))))))))))))
theorem bw : aR ["_law_head", "_law_many", "_law_rising", "_law_ring", "_law_ties", "_law_k", "_law_heavy", "_law_bars", "_law_bits", "_law_stand_here"] ["_law_head"] (aj dY) := ⟨rfl, rfl, rfl, by decide +kernel, rfl, by decide +kernel, by decide +kernel⟩
theorem uv (F : Fun K "_law_line" "_law_line" dY f fd) (bf : mg "tuple" = none) (hV : mg "sorted" = none) (bc : mg "range" = none) (iR : mg "sum" = none) (au : Def P w K mg base "_law_digit" 1 2 ar) : ce P w K mg base CX0 2 f fd ["_law_head"] (spF K eP 1) := by
  refine cA F bw fun cdv A outer s H E hr => ?_
  have hu := dF hr
  exact (ag (aE (i := 1) bw.nd rfl (by first | exact .inl rfl | exact .inr rfl) (aM bH b7 ah (ax au (hr.mono (by decide)) rfl (ae (mv 0) (ae ah am)) ay)))
    (ag (aE (i := 2) bw.nd rfl (by first | exact .inl rfl | exact .inr rfl) (ax au (hr.mono (by decide)) rfl (ae (mv 0) (ae ah am)) ay))
    (ag (aE (i := 3) bw.nd rfl (by first | exact .inl rfl | exact .inr rfl) (ax au (hr.mono (by decide)) rfl (ae (mv 0) (ae ah am)) ay))
    (ag (jo (i := 4) bw.nd rfl (by first | exact .inl rfl | exact .inr rfl) (own := ["_law_k"]) (capn := []) (caps := []) rfl (bR.mk' rfl (by decide +kernel) (by decide +kernel) (by repeat' (first | exact aZ.nil | refine aZ.cons (by first | exact (fun _ => .inl rfl) | exact (fun _ => .inr rfl) | (intro z; cases z; done)) ?_)) bX.nil) (ck rfl bc (mv 1))
      (fun cl C s H ex => ⟨(aI (i := 0) (show ((["_law_k"] : List Str) ++ ([] : List Str)).Nodup by decide +kernel) rfl (by first | exact .inl rfl | exact .inr rfl)), ed, (bJ (cf am (fun _ _ _ _ z => by rw [bj _ _ _ _ z]; decide)))⟩))
    (ag (ek PassesOwn.never rfl (ck rfl bc (aM bH b7 (aM li yn (mv 1) ah) (mv 3))) (aI (i := 5) bw.nd rfl (by first | exact .inl rfl | exact .inr rfl)) (ag (aE (i := 6) bw.nd rfl (by first | exact .inl rfl | exact .inr rfl) (aM bH b7 ah (aM dB dD (mv 2) (mv 5))))
    (ag (eJ (iX (bg (mv 4) (mv 5) (fun _ _ => rfl)) (dE (ae (aM fQ fS (aM bH b7 (mv 5) ah) (mv 1)) (ae (mv 6) am)))))
    (aq (eJ (iX (bg (mv 4) (aM fQ fS (aM bH b7 (mv 5) ah) (mv 1)) (fun _ _ => rfl)) (dE (ae (mv 5) (ae (mv 6) am)))))))))
    (ag (jo (i := 7) bw.nd rfl (by first | exact .inl rfl | exact .inr rfl) (own := ["_law_some"]) (capn := []) (caps := []) rfl (bR.mk' rfl (by decide +kernel) (by decide +kernel) (by repeat' (first | exact aZ.nil | refine aZ.cons (by first | exact (fun _ => .inl rfl) | exact (fun _ => .inr rfl) | (intro z; cases z; done)) ?_)) bX.nil) (ec (mv 4))
      (fun cl C s H ex => ⟨(aI (i := 0) (show ((["_law_some"] : List Str) ++ ([] : List Str)).Nodup by decide +kernel) rfl (by first | exact .inl rfl | exact .inr rfl)), ed, (tR rfl rfl iR (gI (eX (own := ["_law_other", "_law_heavy"]) (capn := []) (caps := []) rfl (bR.mk' rfl (by decide +kernel) (by decide +kernel) (by repeat' (first | exact aZ.nil | refine aZ.cons (by first | exact (fun _ => .inl rfl) | exact (fun _ => .inr rfl) | (intro z; cases z; done)) ?_)) bX.nil) (ec (mv 0))
      (fun cl C s H ex => ⟨(gK rfl (bn (aI (i := 0) (show ((["_law_other", "_law_heavy"] : List Str) ++ ([] : List Str)).Nodup by decide +kernel) rfl (by first | exact .inl rfl | exact .inr rfl)) (bn (aI (i := 1) (show ((["_law_other", "_law_heavy"] : List Str) ++ ([] : List Str)).Nodup by decide +kernel) rfl (by first | exact .inl rfl | exact .inr rfl)) eI))), ed, (mv 1)⟩))))⟩))
    (ag (b5 (a5 rK m6 (ax au (hr.mono (by decide)) rfl (ae (mv 0) (ae ah am)) ay) ah (a4 _)) (aq (jo (i := 7) bw.nd rfl (by first | exact .inl rfl | exact .inr rfl) (own := ["_law_some"]) (capn := []) (caps := []) rfl (bR.mk' rfl (by decide +kernel) (by decide +kernel) (by repeat' (first | exact aZ.nil | refine aZ.cons (by first | exact (fun _ => .inl rfl) | exact (fun _ => .inr rfl) | (intro z; cases z; done)) ?_)) bX.nil) (ec (mv 4))
      (fun cl C s H ex => ⟨(aI (i := 0) (show ((["_law_some"] : List Str) ++ ([] : List Str)).Nodup by decide +kernel) rfl (by first | exact .inl rfl | exact .inr rfl)), ed, ah⟩))) a7)
    (ag (aE (i := 8) bw.nd rfl (by first | exact .inl rfl | exact .inr rfl) (aM Hr Id ah (aM dB dD (ax au (hr.mono (by decide)) rfl (ae (mv 0) (ae ah am)) ay) (aM li yn (mv 1) ah))))
    (ag (b5 (a5 (gJ hu) jC (ax au (hr.mono (by decide)) rfl (ae (mv 0) (ae ah am)) ay) ah (a4 _)) (aq (aE (i := 8) bw.nd rfl (by first | exact .inl rfl | exact .inr rfl) (ax au (hr.mono (by decide)) rfl (ae (mv 0) (ae (aM yf yo ah ah) am)) ay))) a7)
    (ag (aE (i := 9) bw.nd rfl (by first | exact .inl rfl | exact .inr rfl) (d8 rfl bf (gI (eX (own := ["_law_k"]) (capn := ["_law_bits"]) (caps := [8]) rfl (bR.mk' rfl (by decide +kernel) (by decide +kernel) (by repeat' (first | exact aZ.nil | refine aZ.cons (by first | exact (fun _ => .inl rfl) | exact (fun _ => .inr rfl) | (intro z; cases z; done)) ?_)) (bX.cons rfl rfl bX.nil)) (ck rfl bc (mv 1))
      (fun cl C s H ex => ⟨(aI (i := 0) (show ((["_law_k"] : List Str) ++ (["_law_bits"] : List Str)).Nodup by decide +kernel) rfl (by first | exact .inl rfl | exact .inr rfl)), ed, (aM Ht FO (aM Hs Ib (mv 1) (mv 0)) ah)⟩)))))
    (aq (aL (dE (ae (dE (ae (d8 rfl bf (gI (eX (own := ["_law_some"]) (capn := []) (caps := []) rfl (bR.mk' rfl (by decide +kernel) (by decide +kernel) (by repeat' (first | exact aZ.nil | refine aZ.cons (by first | exact (fun _ => .inl rfl) | exact (fun _ => .inr rfl) | (intro z; cases z; done)) ?_)) bX.nil) (ec (mv 4))
      (fun cl C s H ex => ⟨(aI (i := 0) (show ((["_law_some"] : List Str) ++ ([] : List Str)).Nodup by decide +kernel) rfl (by first | exact .inl rfl | exact .inr rfl)), ed, (d8 rfl bf (gI (D5 rfl hV (mv 0))))⟩)))) (ae (d8 rfl bf (cL (mv 7))) (ae (aM FP FQ (dE (ae cG am)) (mv 1)) am)))) (ae (mv 9) am)))))))))))))))
theorem dA : aR ["_law_web_here", "_law_states", "_law_found", "_law_k", "_law_held"] ["_law_web_here", "_law_states"] (aj dj) := ⟨rfl, rfl, rfl, by decide +kernel, rfl, by decide +kernel, by decide +kernel⟩
theorem pY (F : Fun K "_law_stand" "_law_stand" dj f fd) (bf : mg "tuple" = none) (bc : mg "range" = none) (bQ : mg "len" = none) (au : Def P w K mg base "_law_digit" 1 2 ar) : ce P w K mg base CX0 2 f fd ["_law_web_here", "_law_states"] (spF K fD 2) := by
  refine cA F dA fun cdv A outer s H E hr => ?_
  have hu := dF hr
  exact (ag (aE (i := 2) dA.nd rfl (by first | exact .inl rfl | exact .inr rfl) (bJ (cf am (fun _ _ _ _ z => by rw [bj _ _ _ _ z]; decide))))
    (ag (ek PassesOwn.never rfl (ck rfl bc (d5 rfl bQ (cL (mv 1)))) (aI (i := 3) dA.nd rfl (by first | exact .inl rfl | exact .inr rfl)) (ag (aE (i := 4) dA.nd rfl (by first | exact .inl rfl | exact .inr rfl) (ax au (hr.mono (by decide)) rfl (ae (bg (mv 1) (mv 3) (fun _ _ => rfl)) (ae ah am)) ay))
    (ag (b5 (a5 tF lw (bg (bg (mv 0) ah (fun _ _ => rfl)) (mv 3) (fun _ _ => rfl)) cG (a4 _)) (aq (aE (i := 4) dA.nd rfl (by first | exact .inl rfl | exact .inr rfl) (bg (bg (mv 0) ah (fun _ _ => rfl)) (mv 3) (fun _ _ => rfl)))) a7)
    (aq (eJ (iX (mv 2) (mv 4)))))))
    (aq (aL (d8 rfl bf (cL (mv 2)))))))
theorem bY : aR ["_law_script", "_law_many", "_law_state", "_law_order_here", "_law_k", "_law_more", "_law_gone_one"] ["_law_script", "_law_many"] (aj dk) := ⟨rfl, rfl, rfl, by decide +kernel, rfl, by decide +kernel, by decide +kernel⟩
theorem pZ (F : Fun K "_law_order" "_law_order" dk f fd) (bc : mg "range" = none) (bQ : mg "len" = none) (au : Def P w K mg base "_law_digit" 1 2 ar) (cq : Def P w K mg base "_law_cell" 2 2 aY) : ce P w K mg base CX0 3 f fd ["_law_script", "_law_many"] (spF K dc 2) := by
  refine cA F bY fun cdv A outer s H E hr => ?_
  have hu := dF hr
  exact (ag (aE (i := 2) bY.nd rfl (by first | exact .inl rfl | exact .inr rfl) (bJ (cf (ae (ax cq (hr.mono (by decide)) rfl (ae (mv 0) (ae ah am)) ay) am) (fun _ _ _ _ z => by rw [(aA bj) _ _ _ _ z]; decide))))
    (ag (aE (i := 3) bY.nd rfl (by first | exact .inl rfl | exact .inr rfl) (bJ (cf am (fun _ _ _ _ z => by rw [bj _ _ _ _ z]; decide))))
    (ag (ek PassesOwn.never rfl (ck rfl bc (mv 1)) (aI (i := 4) bY.nd rfl (by first | exact .inl rfl | exact .inr rfl)) (aq (eJ (D6 (mv 3) (ax au (hr.mono (by decide)) rfl (ae (mv 2) (ae (aM bH b7 (mv 4) ah) am)) ay) (mv 4)))))
    (ag (aE (i := 5) bY.nd rfl (by first | exact .inl rfl | exact .inr rfl) (bJ (cf (ae (ax cq (hr.mono (by decide)) rfl (ae (mv 0) (ae ah am)) ay) am) (fun _ _ _ _ z => by rw [(aA bj) _ _ _ _ z]; decide))))
    (ag (ek PassesOwn.never rfl (ck rfl bc (ax au (hr.mono (by decide)) rfl (ae (mv 5) (ae ah am)) ay)) (aI (i := 4) bY.nd rfl (by first | exact .inl rfl | exact .inr rfl)) (aq (eJ (D6 (mv 3) (ax au (hr.mono (by decide)) rfl (ae (mv 5) (ae (aM bH b7 (d5 rfl bQ (cL (mv 3))) ah) am)) ay) (ax au (hr.mono (by decide)) rfl (ae (mv 5) (ae (mv 1) am)) ay)))))
    (ag (b5 (a5 (gJ hu) jC (ax au (hr.mono (by decide)) rfl (ae (mv 5) (ae ah am)) ay) ah (a4 _)) (ag (aE (i := 6) bY.nd rfl (by first | exact .inl rfl | exact .inr rfl) (ax au (hr.mono (by decide)) rfl (ae (mv 5) (ae (mv 1) am)) ay))
    (aq (jo (i := 3) bY.nd rfl (by first | exact .inl rfl | exact .inr rfl) (own := ["_law_person"]) (capn := ["_law_gone_one"]) (caps := [6]) rfl (bR.mk' rfl (by decide +kernel) (by decide +kernel) (by repeat' (first | exact aZ.nil | refine aZ.cons (by first | exact (fun _ => .inl rfl) | exact (fun _ => .inr rfl) | (intro z; cases z; done)) ?_)) (bX.cons rfl rfl bX.nil)) (ec (mv 3))
      (fun cl C s H ex => ⟨(aI (i := 0) (show ((["_law_person"] : List Str) ++ (["_law_gone_one"] : List Str)).Nodup by decide +kernel) rfl (by first | exact .inl rfl | exact .inr rfl)), (kv (a5 (eT hu) iO (mv 0) (mv 1) (a4 _))), (mv 0)⟩)))) a7)
    (aq (aL (mv 3)))))))))
theorem eL : aR ["_law_web_here", "_law_stand_here", "_law_order_here", "_law_held", "_law_person", "_law_force"] ["_law_web_here", "_law_stand_here", "_law_order_here"] (aj dl) := ⟨rfl, rfl, rfl, by decide +kernel, rfl, by decide +kernel, by decide +kernel⟩
theorem p5 (F : Fun K "_law_round" "_law_round" dl f fd) (bf : mg "tuple" = none) (iQ : mg "int" = none) (iR : mg "sum" = none) (c9 : mg "list" = none) : ce P w K mg base CX0 1 f fd ["_law_web_here", "_law_stand_here", "_law_order_here"] (spF K fE 3) := by
  refine cA F eL fun cdv A outer s H E hr => ?_
  have hu := dF hr
  exact (ag (aE (i := 3) eL.nd rfl (by first | exact .inl rfl | exact .inr rfl) (bJ (jq rfl c9 (cL (mv 1)))))
    (ag (ek PassesOwn.never rfl (ec (mv 2)) (aI (i := 4) eL.nd rfl (by first | exact .inl rfl | exact .inr rfl)) (ag (aE (i := 5) eL.nd rfl (by first | exact .inl rfl | exact .inr rfl) (aM dB dD ah (tR rfl rfl iR (gI (eX (own := ["_law_other", "_law_heavy"]) (capn := ["_law_held"]) (caps := [3]) rfl (bR.mk' rfl (by decide +kernel) (by decide +kernel) (by repeat' (first | exact aZ.nil | refine aZ.cons (by first | exact (fun _ => .inl rfl) | exact (fun _ => .inr rfl) | (intro z; cases z; done)) ?_)) (bX.cons rfl rfl bX.nil)) (ec (bg (bg (mv 0) ah (fun _ _ => rfl)) (mv 4) (fun _ _ => rfl)))
      (fun cl C s H ex => ⟨(gK rfl (bn (aI (i := 0) (show ((["_law_other", "_law_heavy"] : List Str) ++ (["_law_held"] : List Str)).Nodup by decide +kernel) rfl (by first | exact .inl rfl | exact .inr rfl)) (bn (aI (i := 1) (show ((["_law_other", "_law_heavy"] : List Str) ++ (["_law_held"] : List Str)).Nodup by decide +kernel) rfl (by first | exact .inl rfl | exact .inr rfl)) eI))), ed, (aM dB dD (mv 1) (bg (mv 2) (mv 0) (fun _ _ => rfl)))⟩))))))
    (aq (b5 (MW.mt (nP (a5 nD nO (bg (bg (mv 0) ah (fun _ _ => rfl)) (mv 4) (fun _ _ => rfl)) cG (a4 _)) (gH (a5 (eT hu) iO (mv 5) (bg (bg (mv 0) ah (fun _ _ => rfl)) (mv 4) (fun _ _ => rfl)) (a4 _)) (.inl rfl)))) (aq (tS (Ba rfl iQ (ym rK m6 (mv 5) (bg (bg (mv 0) ah (fun _ _ => rfl)) (mv 4) (fun _ _ => rfl)) (a4 _))) (mv 3) (mv 4))) a7))))
    (aq (aL (d8 rfl bf (cL (mv 3)))))))
theorem c8 : aR ["_law_web_here", "_law_stand_here", "_law_order_here", "_law_person", "_law_rounds", "_law_behind"] ["_law_web_here", "_law_stand_here", "_law_order_here"] (aj eE) := ⟨rfl, rfl, rfl, by decide +kernel, rfl, by decide +kernel, by decide +kernel⟩
theorem wS (F : Fun K "_law_due" "_law_due" eE f fd) (bc : mg "range" = none) (bQ : mg "len" = none) (ff : Def P w K mg base "_law_round" 1 3 fE) : ce P w K mg base CX0 2 f fd ["_law_web_here", "_law_stand_here", "_law_order_here"] (spF K e9 3) := by
  refine cA F c8 fun cdv A outer s H E hr => ?_
  have hu := dF hr
  exact (ag (ek PassesOwn.never rfl (ck rfl bc (d5 rfl bQ (cL (mv 1)))) (aI (i := 3) c8.nd rfl (by first | exact .inl rfl | exact .inr rfl)) (aq (b5 (MW.mt (nP (a5 nD nO (bg (bg (mv 0) ah (fun _ _ => rfl)) (mv 3) (fun _ _ => rfl)) cG (a4 _)) (gH (a5 ic nX (mv 3) (mv 2) rfl) (.inl rfl)))) (aq (aL (lv [111, 114, 100, 101, 114] rfl))) a7)))
    (ag (aE (i := 4) c8.nd rfl (by first | exact .inl rfl | exact .inr rfl) ah)
    (ag (aE (i := 5) c8.nd rfl (by first | exact .inl rfl | exact .inr rfl) (ax ff (hr.mono (by decide)) rfl (ae (mv 0) (ae (mv 1) (ae (mv 2) am))) ay))
    (ag (vU PassesOwn.never (a5 (eT hu) iO (mv 5) (mv 1) (a4 _)) (ag (aE (i := 4) c8.nd rfl (by first | exact .inl rfl | exact .inr rfl) (aM bH b7 (mv 4) ah))
    (ag (aE (i := 1) c8.nd rfl (by first | exact .inl rfl | exact .inr rfl) (mv 5))
    (aq (aE (i := 5) c8.nd rfl (by first | exact .inl rfl | exact .inr rfl) (ax ff (hr.mono (by decide)) rfl (ae (mv 0) (ae (mv 1) (ae (mv 2) am))) ay))))))
    (aq (aL (dE (ae (mv 4) (ae (mv 1) am)))))))))
theorem dm : aR ["_law_web_here", "_law_stand_here", "_law_order_here", "_law_caught", "_law_found", "error", "_law_marks"] ["_law_web_here", "_law_stand_here", "_law_order_here"] (aj dZ) := ⟨rfl, rfl, rfl, by decide +kernel, rfl, by decide +kernel, by decide +kernel⟩
theorem ng (F0 : Fun K "check_stand" "check_stand" cP f fd) (zg : Def P w K mg base "fits" 4 2 dI) {aV : Addr} (lW : PyProof.Rows.OwnCls (Str.ofString "NoStand") aV Jz "ValueError.__new__" mg base) : ce P w K mg base (CX1 P w) 5 f fd ["web", "thing"] (spY K mg b8 2) := by
  refine yB F0 oA fun cdv A outer s H E hr => ?_
  have hu := dF hr
  exact (im (GW (ig (ej (ax zg (hr.mono (by decide)) rfl (ae (mv 0) (ae (mv 1) am)) ay))) (im (wg (n := "NoStand") lW F.excBase_ValueError rfl rfl (fun e s' h => t5 h))) Bn))
theorem nh (F0 : Fun K "check_order" "check_order" cQ f fd) (lX : Def P w K mg base "free_of" 2 1 fA) {aW : Addr} (lY : PyProof.Rows.OwnCls (Str.ofString "NoOrder") aW Jz "ValueError.__new__" mg base) : ce P w K mg base (CX1 P w) 3 f fd ["web", "order"] (spY K mg b9 2) := by
  refine yB F0 i8 fun cdv A outer s H E hr => ?_
  have hu := dF hr
  exact (im (Ii PassesOwn.leaving rfl (ec (ax lX (hr.mono (by decide)) rfl (ae (mv 0) am) ay)) (aI (i := 2) i8.nd rfl (by first | exact .inl rfl | exact .inr rfl)) (im (GW (a5 ic nX (mv 2) (mv 1) rfl) (im (wg (n := "NoOrder") lY F.excBase_ValueError rfl rfl (fun e s' h => t5 h))) Bn))))
theorem wT (F0 : Fun K "settled" "settled" fM f fd) (fg : Def P w K mg base "changes_at" 4 3 bV) (lZ : Def P w K mg base "changed" 1 2 er) (p6 : m8 P w K mg base "check_order" 3 2 b9) (p7 : m8 P w K mg base "check_stand" 5 2 b8) : ce P w K mg base (CX1 P w) 6 f fd ["web", "stand", "order"] (spY K mg cx 3) := by
  refine yB F0 dP fun cdv A outer s H E hr => ?_
  have hu := dF hr
  exact (gZ (Bp (t7 p7 (hr.mono (by decide)) rfl (Em (ae (mv 0) (ae (mv 1) am))) (fun v s' h => t5 h.xp) t9))
    (gZ (Bp (t7 p6 (hr.mono (by decide)) rfl (Em (ae (mv 0) (ae (mv 2) am))) (fun v s' h => t5 h.xp) t9))
    (gZ (wf (aE (i := 3) dP.nd rfl (by first | exact .inl rfl | exact .inr rfl) ah))
    (gZ (wf (aE (i := 4) dP.nd rfl (by first | exact .inl rfl | exact .inr rfl) (mv 1)))
    (gZ (wf (aE (i := 5) dP.nd rfl (by first | exact .inl rfl | exact .inr rfl) (ax fg (hr.mono (by decide)) rfl (ae (mv 0) (ae (mv 4) (ae (mv 2) am))) ay)))
    (gZ (wf (vU PassesOwn.leaving (a5 (eT hu) iO (mv 5) (bJ (cf am (fun _ _ _ _ z => by rw [bj _ _ _ _ z]; decide))) (a4 _)) (ag (HP (i := 3) dP.nd rfl (by first | exact .inl rfl | exact .inr rfl) ah Fl yn)
    (ag (aE (i := 4) dP.nd rfl (by first | exact .inl rfl | exact .inr rfl) (ax lZ (hr.mono (by decide)) rfl (ae (mv 4) (ae (mv 5) am)) ay))
    (aq (aE (i := 5) dP.nd rfl (by first | exact .inl rfl | exact .inr rfl) (ax fg (hr.mono (by decide)) rfl (ae (mv 0) (ae (mv 4) (ae (mv 2) am))) ay)))))))
    (im (wf (aL (dE (ae (mv 3) (ae (mv 4) am))))))))))))
theorem uw (F : Fun K "_law_told" "_law_told" dZ f fd) (aK : mg "isinstance" = none) (iB : mg "ValueError" = none) (bQ : mg "len" = none) {aV : Addr} (hW : mg "NoStand" = some (.ref aV)) {aW : Addr} (hZ : mg "NoOrder" = some (.ref aW)) {dR : Addr} (ke : mg "NoPeople" = some (.ref dR)) {gf : Addr} (oF : mg "NoRest" = some (.ref gf)) {iC : Addr} (ux : mg "NoRow" = some (.ref iC)) {gh : Addr} (oG : mg "NoText" = some (.ref gh)) {iD : Addr} (uy : mg "NoWeb" = some (.ref iD)) {eF : Addr} (l7 : mg "TooLong" = some (.ref eF)) {eG : Addr} (l8 : mg "TooMuch" = some (.ref eG)) {bC : Addr} (ja : mg "MostError" = some (.ref bC)) (iE : lH K (fun C b => PySem.W.kitOne K (.ref C) (kC (.ty "ValueError")) = some b) [("NoStand", true), ("NoOrder", true)]) (l9 : lH K (fun C b => PySem.W.kitOne K (.ref C) (kC (.ref aV)) = some b) [("NoStand", true), ("NoOrder", false)]) (ma : lH K (fun C b => PySem.W.kitOne K (.ref C) (kC (.ref aW)) = some b) [("NoStand", false), ("NoOrder", true)]) (t_T0 : lH K (fun C b => PySem.W.kitAny K (.ref C) ([.ref dR, .ref gf, .ref iC, .ref gh, .ref iD, .ref eF, .ref eG].map kC) = some b) [("NoStand", false), ("NoOrder", false)]) (h_be : PySem.W.subIn K (.ref bC) (.type "BaseException") = some true) (h_is : (PySem.W.clsIn K bC).isSome = true) (h_ty : PySem.W.typeIn K (.ref bC) = some (.type "type")) (h_cs : Ca K mg bC ["NoStand", "NoOrder"]) (Cv : m8 P w K mg base "settled" 6 3 cx) : ce P w K mg base CX0 7 f fd ["_law_web_here", "_law_stand_here", "_law_order_here"] (spF K cN 3) := by
  refine cA F dm fun cdv A outer s H E hr => ?_
  have hu := dF hr
  exact (ag (aE (i := 3) dm.nd rfl (by first | exact .inl rfl | exact .inr rfl) cG)
    (ag (aE (i := 4) dm.nd rfl (by first | exact .inl rfl | exact .inr rfl) cG)
    (ag (Ik (i := 3) (j := 5) (cs := ["NoStand", "NoOrder"]) rfl rfl (fun q E => (im (Ih (i := 4) dm.nd rfl (by first | exact .inl rfl | exact .inr rfl) (t7 Cv (hr.mono (by decide)) rfl (Em (ae (mv 0) (ae (mv 1) (ae (mv 2) am)))) (fun v s' h => h.unwish) t9)))) rfl rfl ja rfl h_be h_is h_ty dm.nd (by decide) rfl rfl rfl rfl h_cs)
    (ag (b5 (a5 nD nO (mv 3) cG (a4 _)) (aq (aL (mv 4))) a7)
    (ag (b5 (ej (FY (tb := [("NoStand", false), ("NoOrder", false)]) (j2 rfl ke (j2 rfl oF (j2 rfl ux (j2 rfl oG (j2 rfl uy (j2 rfl l7 (j2 rfl l8 FX))))))) rfl (by show 7 ≤ sizeLine; decide) rfl aK t_T0 (mv 3))) (aq (aL (lv [111, 116, 104, 101, 114] rfl))) a7)
    (ag (aE (i := 6) dm.nd rfl (by first | exact .inl rfl | exact .inr rfl) (bJ (cf (ae (ub (tb := [("NoStand", false), ("NoOrder", true)]) (v := .ref aW) rfl rfl aK (tw (v := .ref aW) rfl hZ rfl (by decide)) ma (mv 3)) (ae (ub (tb := [("NoStand", true), ("NoOrder", false)]) (v := .ref aV) rfl rfl aK (tw (v := .ref aV) rfl hW rfl (by decide)) l9 (mv 3)) am)) (fun _ _ _ _ z => by rw [(aA (aA bj)) _ _ _ _ z]; decide))))
    (ag (b5 (MW.mt (nQ (a5 (eT hu) iO (d5 rfl bQ (gI (eX (own := ["_law_mark"]) (capn := []) (caps := []) rfl (bR.mk' rfl (by decide +kernel) (by decide +kernel) (by repeat' (first | exact aZ.nil | refine aZ.cons (by first | exact (fun _ => .inl rfl) | exact (fun _ => .inr rfl) | (intro z; cases z; done)) ?_)) bX.nil) (ec (mv 6))
      (fun cl C s H ex => ⟨(aI (i := 0) (show ((["_law_mark"] : List Str) ++ ([] : List Str)).Nodup by decide +kernel) rfl (by first | exact .inl rfl | exact .inr rfl)), (kv (ej (mv 0))), (mv 0)⟩)))) ah (a4 _)) (gH (ig (ej (ub (tb := [("NoStand", true), ("NoOrder", true)]) (v := .ty "ValueError") rfl rfl aK (AX (v := .ty "ValueError") (u := .type "ValueError") rfl iB (by decide +kernel) rfl) iE (mv 3)))) (.inr rfl)))) (aq (aL (lv [111, 116, 104, 101, 114] rfl))) a7)
    (aq (aL (rY (cf (ae (lv [111, 114, 100, 101, 114] rfl) (ae (lv [115, 116, 97, 110, 100] rfl) am)) (fun _ _ _ _ z => by rw [(aA (aA bj)) _ _ _ _ z]; decide)) (F1 (mv 6) iV) (fun _ _ => rfl)))))))))))
theorem oD : aR ["_law_found", "_law_due_here", "_law_one"] ["_law_found", "_law_due_here"] (aj fN) := ⟨rfl, rfl, rfl, by decide +kernel, rfl, by decide +kernel, by decide +kernel⟩
theorem zf (F : Fun K "_law_is" "_law_is" fN f fd) (aK : mg "isinstance" = none) (lP : mg "bool" = none) (iQ : mg "int" = none) (bf : mg "tuple" = none) (bQ : mg "len" = none) (ET : mg "str" = none) : ce P w K mg base CX0 1 f fd ["_law_found", "_law_due_here"] (spF K iw 2) := by
  refine cA F oD fun cdv A outer s H E hr => ?_
  have hu := dF hr
  exact (ag (b5 (ej (gv (t := .str) rfl aK rfl ET (by decide +kernel) (mv 1))) (aq (aL (ym (gJ hu) jC (mv 0) (mv 1) (a4 _)))) a7)
    (ag (b5 (MW.mt (nQ (ig (ej (gv (t := .tuple) rfl aK rfl bf (by decide +kernel) (mv 0)))) (nQ (a5 (eT hu) iO (d5 rfl bQ (cL (mv 0))) ah (a4 _)) (nQ (a5 (eT hu) iO (mv 0) (mv 1) (a4 _)) (gH (ig (ej (gv (t := .tuple) rfl aK rfl bf (by decide +kernel) (bg (mv 0) ah (fun _ _ => rfl))))) (.inr rfl)))))) (aq (aL iV)) a7)
    (ag (ek PassesOwn.never rfl (ec (aM bH b7 (dE (ae (bg (mv 0) ah (fun _ _ => rfl)) am)) (bg (mv 0) ah (fun _ _ => rfl)))) (aI (i := 2) oD.nd rfl (by first | exact .inl rfl | exact .inr rfl)) (aq (b5 (MW.mt (nQ (ig (ej (gv (t := .int) rfl aK rfl iQ (by decide +kernel) (mv 2)))) (gH (ej (gv (t := .bool) rfl aK rfl lP (by decide +kernel) (mv 2))) (.inr rfl)))) (aq (aL iV)) a7)))
    (aq (aL iV)))))
theorem dQ : aR ["_law_script", "_law_web_here", "_law_states", "_law_head", "_law_stand_here", "_law_order_here", "_law_rising", "_law_handed", "_law_due_here", "_law_things", "_law_full"] ["_law_script"] (aj kL) := ⟨rfl, rfl, rfl, by decide +kernel, rfl, by decide +kernel, by decide +kernel⟩
theorem IE (F : Fun K "law" "law" kL f fd) (bc : mg "range" = none) (bQ : mg "len" = none) (c9 : mg "list" = none) (ia : Def P w K mg base "_law_is" 1 2 iw) (gj : Def P w K mg base "_law_due" 2 3 e9) (d0 : Def P w K mg base "_law_told" 7 3 cN) (eR : Def P w K mg base "_law_wide" 1 2 cC) (au : Def P w K mg base "_law_digit" 1 2 ar) (fj : Def P w K mg base "_law_order" 3 2 dc) (jb : Def P w K mg base "_law_line" 2 1 eP) (cq : Def P w K mg base "_law_cell" 2 2 aY) (iF : Def P w K mg base "_law_stand" 2 2 fD) (kf : Def P w K mg base "_law_web" 3 1 jv) : ce P w K mg base CX0 8 f fd ["_law_script"] (spF K BB 1) := by
  refine cA F dQ fun cdv A outer s H E hr => ?_
  have hu := dF hr
  exact (ag (DO (ax kf (hr.mono (by decide)) rfl (ae (mv 0) am) ay) (gK rfl (bn (aI (i := 1) dQ.nd rfl (by first | exact .inl rfl | exact .inr rfl)) (bn (aI (i := 2) dQ.nd rfl (by first | exact .inl rfl | exact .inr rfl)) (bn (aI (i := 3) dQ.nd rfl (by first | exact .inl rfl | exact .inr rfl)) eI)))))
    (ag (aE (i := 4) dQ.nd rfl (by first | exact .inl rfl | exact .inr rfl) (ax iF (hr.mono (by decide)) rfl (ae (mv 1) (ae (mv 2) am)) ay))
    (ag (aE (i := 5) dQ.nd rfl (by first | exact .inl rfl | exact .inr rfl) (ax fj (hr.mono (by decide)) rfl (ae (mv 0) (ae (d5 rfl bQ (cL (mv 4))) am)) ay))
    (ag (b5 (a5 (gJ hu) jC (ax au (hr.mono (by decide)) rfl (ae (mv 3) (ae ah am)) ay) ah (a4 _)) (ag (DO (ax jb (hr.mono (by decide)) rfl (ae (bJ (cf (ae (ax cq (hr.mono (by decide)) rfl (ae (mv 0) (ae ah am)) ay) am) (fun _ _ _ _ z => by rw [(aA bj) _ _ _ _ z]; decide))) am) ay) (gK rfl (bn (aI (i := 1) dQ.nd rfl (by first | exact .inl rfl | exact .inr rfl)) (bn (aI (i := 4) dQ.nd rfl (by first | exact .inl rfl | exact .inr rfl)) eI))))
    (ag (aE (i := 6) dQ.nd rfl (by first | exact .inl rfl | exact .inr rfl) (bJ (Ea rfl rfl c9 rfl bc (d5 rfl bQ (cL (mv 4))))))
    (aq (aE (i := 5) dQ.nd rfl (by first | exact .inl rfl | exact .inr rfl) (rY (cf (ae (mv 6) (ae (bJ (HW (mv 6))) (ae (ax fj (hr.mono (by decide)) rfl (ae (mv 0) (ae (d5 rfl bQ (cL (mv 4))) am)) ay) am))) (fun _ _ _ _ z => by rw [(aA (aA (aA bj))) _ _ _ _ z]; decide)) (ax au (hr.mono (by decide)) rfl (ae (mv 3) (ae ah am)) ay) (fun _ _ => rfl)))))) a7)
    (ag (aE (i := 7) dQ.nd rfl (by first | exact .inl rfl | exact .inr rfl) (bJ (jq rfl c9 (cL (mv 5)))))
    (ag (aE (i := 8) dQ.nd rfl (by first | exact .inl rfl | exact .inr rfl) (ax gj (hr.mono (by decide)) rfl (ae (mv 1) (ae (mv 4) (ae (mv 5) am))) ay))
    (ag (b5 (MW.mt (nQ (ig (ej (ax ia (hr.mono (by decide)) rfl (ae (ax d0 (hr.mono (by decide)) rfl (ae (mv 1) (ae (mv 4) (ae (mv 7) am))) ay) (ae (mv 8) am)) ay))) (gH (a5 (eT hu) iO (mv 7) (mv 5) (a4 _)) (.inr rfl)))) (aq (aL iV)) a7)
    (ag (aE (i := 9) dQ.nd rfl (by first | exact .inl rfl | exact .inr rfl) (bJ (cf (ae (bJ (jq rfl c9 (cL (mv 4)))) (ae (nT (mv 4) DV (DW tW)) (ae cG am))) (fun _ _ _ _ z => by rw [(aA (aA (aA bj))) _ _ _ _ z]; decide))))
    (ag (aE (i := 9) dQ.nd rfl (by first | exact .inl rfl | exact .inr rfl) (bJ (Bi (mv 9) (bJ (cf (ae (aM Bj Bk (nT (mv 4) DV (DW tW)) (dE (ae ah am))) (ae (aM Bj Bk (nT (mv 4) DV (DW tW)) (dE (ae cG am))) am)) (fun _ _ _ _ z => by rw [(aA (aA bj)) _ _ _ _ z]; decide))))))
    (ag (b5 (a5 (eT hu) iO (ax d0 (hr.mono (by decide)) rfl (ae (mv 1) (ae (bg (mv 9) (aM fQ fS (ax eR (hr.mono (by decide)) rfl (ae (mv 0) (ae ah am)) ay) ah) (fun _ _ => rfl)) (ae (mv 5) am))) ay) (lv [115, 116, 97, 110, 100] rfl) (a4 _)) (aq (aL iV)) a7)
    (ag (aE (i := 10) dQ.nd rfl (by first | exact .inl rfl | exact .inr rfl) (bJ (Bi (mv 5) (bJ (eX (own := ["_law_k"]) (capn := ["_law_order_here"]) (caps := [5]) rfl (bR.mk' rfl (by decide +kernel) (by decide +kernel) (by repeat' (first | exact aZ.nil | refine aZ.cons (by first | exact (fun _ => .inl rfl) | exact (fun _ => .inr rfl) | (intro z; cases z; done)) ?_)) (bX.cons rfl rfl bX.nil)) (ck rfl bc (d5 rfl bQ (cL (mv 4))))
      (fun cl C s H ex => ⟨(aI (i := 0) (show ((["_law_k"] : List Str) ++ (["_law_order_here"] : List Str)).Nodup by decide +kernel) rfl (by first | exact .inl rfl | exact .inr rfl)), (kv (a5 ic nX (mv 0) (mv 1) rfl)), (mv 0)⟩))))))
    (ag (b5 (ig (ej (ax ia (hr.mono (by decide)) rfl (ae (ax d0 (hr.mono (by decide)) rfl (ae (mv 1) (ae (mv 4) (ae (mv 10) am))) ay) (ae (ax gj (hr.mono (by decide)) rfl (ae (mv 1) (ae (mv 4) (ae (mv 10) am))) ay) am)) ay))) (aq (aL iV)) a7)
    (aq (aL (ax ia (hr.mono (by decide)) rfl (ae (ax d0 (hr.mono (by decide)) rfl (ae (mv 1) (ae (mv 4) (ae (mv 5) am))) ay) (ae (ax gj (hr.mono (by decide)) rfl (ae (mv 1) (ae (mv 4) (ae (mv 5) am))) ay) am)) ay)))))))))))))))
end
theorem ge {α : Type} (us : List α) (hl : us.length = 1) : ∃ x0, us = [x0] := match us, hl with | [x0], _ => ⟨x0, rfl⟩
theorem cc {α : Type} (us : List α) (hl : us.length = 2) : ∃ x0 x1, us = [x0, x1] := match us, hl with | [x0, x1], _ => ⟨x0, x1, rfl⟩
theorem eQ {α : Type} (us : List α) (hl : us.length = 3) : ∃ x0 x1 x2, us = [x0, x1, x2] := match us, hl with | [x0, x1, x2], _ => ⟨x0, x1, x2, rfl⟩
theorem IG {l : PySem.W.OpenLaw} {w : World} {K : PySem.W.Frag} {h : Heap} {mg : Str → Option Value} {fa kg iG iH mf mh oH mj kh ml zh gP mn mo gQ iI mq mr jc jd iJ gR ki kj je iK iL iM kl jf mw EU bC aV aW dR gf iC gh iD eF eG : Addr} (X : K.In h) (G : h.Ns mainGlobals mg) (hfa : mg "law" = some (.ref fa))
    {wU wV : Option Addr} {wW : Array (Option Value)} {wX wY wZ w5 mH w8 : Value}
    (zi : PySem.W.nsIn K mainGlobals "is_whole" = some (some (.ref kg))) (zj : K.lookup kg = some ⟨wX, wU, .func (PySem.W.fnOf "is_whole" "is_whole" (aS eA) (aN eA) (aj eA) .none wY wZ w5 wV mH w8), wW⟩) (ka : PySem.W.codeIn K mH "is_whole" = true) (oJ : PySem.W.keepIn K (.ref kg) = true)
    {p8 p9 : Option Addr} {qa : Array (Option Value)} {qb qc qd qe jE qf : Value}
    (uz : PySem.W.nsIn K mainGlobals "is_between" = some (some (.ref iG))) (uA : K.lookup iG = some ⟨qb, p8, .func (PySem.W.fnOf "is_between" "is_between" (aS de) (aN de) (aj de) .none qc qd qe p9 jE qf), qa⟩) (iz : PySem.W.codeIn K jE "is_between" = true) (kM : PySem.W.keepIn K (.ref iG) = true)
    {qg qh : Option Addr} {qi : Array (Option Value)} {qj qk ql qo jF qp : Value}
    (uB : PySem.W.nsIn K mainGlobals "is_opinion" = some (some (.ref iH))) (uC : K.lookup iH = some ⟨qj, qg, .func (PySem.W.fnOf "is_opinion" "is_opinion" (aS df) (aN df) (aj df) .none qk ql qo qh jF qp), qi⟩) (iA : PySem.W.codeIn K jF "is_opinion" = true) (kN : PySem.W.keepIn K (.ref iH) = true)
    {zk zl : Option Addr} {zm : Array (Option Value)} {zn zo zp zq oK zr : Value}
    (Cw : PySem.W.nsIn K mainGlobals "many_of" = some (some (.ref mf))) (Cy : K.lookup mf = some ⟨zn, zk, .func (PySem.W.fnOf "many_of" "many_of" (aS fF) (aN fF) (aj fF) .none zo zp zq zl oK zr), zm⟩) (lQ : PySem.W.codeIn K oK "many_of" = true) (sK : PySem.W.keepIn K (.ref mf) = true)
    {zt zu : Option Addr} {zw : Array (Option Value)} {zx zy zA zB oM zC : Value}
    (Cz : PySem.W.nsIn K mainGlobals "ties_of" = some (some (.ref mh))) (CA : K.lookup mh = some ⟨zx, zt, .func (PySem.W.fnOf "ties_of" "ties_of" (aS fG) (aN fG) (aj fG) .none zy zA zB zu oM zC), zw⟩) (lS : PySem.W.codeIn K oM "ties_of" = true) (sL : PySem.W.keepIn K (.ref mh) = true)
    {CB CC : Option Addr} {CF : Array (Option Value)} {CG CH CJ CK sM CL : Value}
    (EV : PySem.W.nsIn K mainGlobals "bar_of" = some (some (.ref oH))) (EW : K.lookup oH = some ⟨CG, CB, .func (PySem.W.fnOf "bar_of" "bar_of" (aS hJ) (aN hJ) (aj hJ) .none CH CJ CK CC sM CL), CF⟩) (oE : PySem.W.codeIn K sM "bar_of" = true) (xa : PySem.W.keepIn K (.ref oH) = true)
    {zD zE : Option Addr} {zF : Array (Option Value)} {zG zH zI zJ oN zK : Value}
    (CM : PySem.W.nsIn K mainGlobals "stay_of" = some (some (.ref mj))) (CN : K.lookup mj = some ⟨zG, zD, .func (PySem.W.fnOf "stay_of" "stay_of" (aS fH) (aN fH) (aj fH) .none zH zI zJ zE oN zK), zF⟩) (hU : PySem.W.codeIn K oN "stay_of" = true) (sN : PySem.W.keepIn K (.ref mj) = true)
    {xb xc : Option Addr} {xf : Array (Option Value)} {xg xh xi xj mI xk : Value}
    (zL : PySem.W.nsIn K mainGlobals "stays_of" = some (some (.ref kh))) (zM : K.lookup kh = some ⟨xg, xb, .func (PySem.W.fnOf "stays_of" "stays_of" (aS eB) (aN eB) (aj eB) .none xh xi xj xc mI xk), xf⟩) (kb : PySem.W.codeIn K mI "stays_of" = true) (oO : PySem.W.keepIn K (.ref kh) = true)
    {zN zO : Option Addr} {zP : Array (Option Value)} {zQ zR zS zT oP zU : Value}
    (CO : PySem.W.nsIn K mainGlobals "free_of" = some (some (.ref ml))) (CP : K.lookup ml = some ⟨zQ, zN, .func (PySem.W.fnOf "free_of" "free_of" (aS fI) (aN fI) (aj fI) .none zR zS zT zO oP zU), zP⟩) (lX : PySem.W.codeIn K oP "free_of" = true) (sO : PySem.W.keepIn K (.ref ml) = true)
    {Gw Gx : Option Addr} {Gy : Array (Option Value)} {Gz GA GB GC BP GD : Value}
    (IH : PySem.W.nsIn K mainGlobals "fits" = some (some (.ref zh))) (II : K.lookup zh = some ⟨Gz, Gw, .func (PySem.W.fnOf "fits" "fits" (aS lO) (aN lO) (aj lO) .none GA GB GC Gx BP GD), Gy⟩) (zg : PySem.W.codeIn K BP "fits" = true) (EX : PySem.W.keepIn K (.ref zh) = true)
    {oQ oR : Option Addr} {oS : Array (Option Value)} {oT oU oV oW jg oX : Value}
    (qq : PySem.W.nsIn K mainGlobals "check_stand" = some (some (.ref gP))) (qs : K.lookup gP = some ⟨oT, oQ, .func (PySem.W.fnOf "check_stand" "check_stand" (aS cP) (aN cP) (aj cP) .none oU oV oW oR jg oX), oS⟩) (qt : PySem.W.codeIn K jg "check_stand" = true) (jG : PySem.W.keepIn K (.ref gP) = true)
    {zV zW : Option Addr} {zX : Array (Option Value)} {zY zZ z0 z5 oY z6 : Value}
    (CQ : PySem.W.nsIn K mainGlobals "pull_at" = some (some (.ref mn))) (CS : K.lookup mn = some ⟨zY, zV, .func (PySem.W.fnOf "pull_at" "pull_at" (aS fJ) (aN fJ) (aj fJ) .none zZ z0 z5 zW oY z6), zX⟩) (lU : PySem.W.codeIn K oY "pull_at" = true) (sP : PySem.W.keepIn K (.ref mn) = true)
    {z7 z8 : Option Addr} {z9 : Array (Option Value)} {Aa Ab Ac Ad oZ Ae : Value}
    (CT : PySem.W.nsIn K mainGlobals "next_at" = some (some (.ref mo))) (CU : K.lookup mo = some ⟨Aa, z7, .func (PySem.W.fnOf "next_at" "next_at" (aS fK) (aN fK) (aj fK) .none Ab Ac Ad z8 oZ Ae), z9⟩) (lV : PySem.W.codeIn K oZ "next_at" = true) (sQ : PySem.W.keepIn K (.ref mo) = true)
    {o0 o5 : Option Addr} {o6 : Array (Option Value)} {o7 o8 o9 pc jh pf : Value}
    (qu : PySem.W.nsIn K mainGlobals "check_order" = some (some (.ref gQ))) (qv : K.lookup gQ = some ⟨o7, o0, .func (PySem.W.fnOf "check_order" "check_order" (aS cQ) (aN cQ) (aj cQ) .none o8 o9 pc o5 jh pf), o6⟩) (qw : PySem.W.codeIn K jh "check_order" = true) (jH : PySem.W.keepIn K (.ref gQ) = true)
    {qx qy : Option Addr} {qz : Array (Option Value)} {qA qB qC qD jI qE : Value}
    (uD : PySem.W.nsIn K mainGlobals "changes_at" = some (some (.ref iI))) (uE : K.lookup iI = some ⟨qA, qx, .func (PySem.W.fnOf "changes_at" "changes_at" (aS dg) (aN dg) (aj dg) .none qB qC qD qy jI qE), qz⟩) (fg : PySem.W.codeIn K jI "changes_at" = true) (kO : PySem.W.keepIn K (.ref iI) = true)
    {Af Ag : Option Addr} {Ah : Array (Option Value)} {Ai Aj Ak Al ph Am : Value}
    (CV : PySem.W.nsIn K mainGlobals "changed" = some (some (.ref mq))) (CW : K.lookup mq = some ⟨Ai, Af, .func (PySem.W.fnOf "changed" "changed" (aS fL) (aN fL) (aj fL) .none Aj Ak Al Ag ph Am), Ah⟩) (lZ : PySem.W.codeIn K ph "changed" = true) (sR : PySem.W.keepIn K (.ref mq) = true)
    {An Ao : Option Addr} {Ap : Array (Option Value)} {Aq Ar As At pi Au : Value}
    (CY : PySem.W.nsIn K mainGlobals "settled" = some (some (.ref mr))) (CZ : K.lookup mr = some ⟨Aq, An, .func (PySem.W.fnOf "settled" "settled" (aS fM) (aN fM) (aj fM) .none Ar As At Ao pi Au), Ap⟩) (C0 : PySem.W.codeIn K pi "settled" = true) (sS : PySem.W.keepIn K (.ref mr) = true)
    {uF uG : Option Addr} {uH : Array (Option Value)} {uI uJ uK uL kP uM : Value}
    (xl : PySem.W.nsIn K mainGlobals "_law_wide" = some (some (.ref jc))) (xm : K.lookup jc = some ⟨uI, uF, .func (PySem.W.fnOf "_law_wide" "_law_wide" (aS dW) (aN dW) (aj dW) .none uJ uK uL uG kP uM), uH⟩) (eR : PySem.W.codeIn K kP "_law_wide" = true) (mJ : PySem.W.keepIn K (.ref jc) = true)
    {uN uO : Option Addr} {uP : Array (Option Value)} {uQ uR uS uT kQ uU : Value}
    (xn : PySem.W.nsIn K mainGlobals "_law_cell" = some (some (.ref jd))) (xo : K.lookup jd = some ⟨uQ, uN, .func (PySem.W.fnOf "_law_cell" "_law_cell" (aS dX) (aN dX) (aj dX) .none uR uS uT uO kQ uU), uP⟩) (cq : PySem.W.codeIn K kQ "_law_cell" = true) (mK : PySem.W.keepIn K (.ref jd) = true)
    {qF qG : Option Addr} {qH : Array (Option Value)} {qI qJ qK qL jJ qM : Value}
    (uV : PySem.W.nsIn K mainGlobals "_law_digit" = some (some (.ref iJ))) (uW : K.lookup iJ = some ⟨qI, qF, .func (PySem.W.fnOf "_law_digit" "_law_digit" (aS dh) (aN dh) (aj dh) .none qJ qK qL qG jJ qM), qH⟩) (au : PySem.W.codeIn K jJ "_law_digit" = true) (kR : PySem.W.keepIn K (.ref iJ) = true)
    {pj pq : Option Addr} {pr : Array (Option Value)} {pv pw px py ji pz : Value}
    (qN : PySem.W.nsIn K mainGlobals "_law_weight" = some (some (.ref gR))) (qO : K.lookup gR = some ⟨pv, pj, .func (PySem.W.fnOf "_law_weight" "_law_weight" (aS cR) (aN cR) (aj cR) .none pw px py pq ji pz), pr⟩) (gO : PySem.W.codeIn K ji "_law_weight" = true) (jK : PySem.W.keepIn K (.ref gR) = true)
    {xq xr : Option Addr} {xt : Array (Option Value)} {xu xv xw xx mL xy : Value}
    (Av : PySem.W.nsIn K mainGlobals "_law_bar" = some (some (.ref ki))) (Aw : K.lookup ki = some ⟨xu, xq, .func (PySem.W.fnOf "_law_bar" "_law_bar" (aS eC) (aN eC) (aj eC) .none xv xw xx xr mL xy), xt⟩) (kc : PySem.W.codeIn K mL "_law_bar" = true) (pA : PySem.W.keepIn K (.ref ki) = true)
    {xz xA : Option Addr} {xB : Array (Option Value)} {xC xD xE xF mM xG : Value}
    (Ax : PySem.W.nsIn K mainGlobals "_law_web" = some (some (.ref kj))) (Ay : K.lookup kj = some ⟨xC, xz, .func (PySem.W.fnOf "_law_web" "_law_web" (aS eD) (aN eD) (aj eD) .none xD xE xF xA mM xG), xB⟩) (kf : PySem.W.codeIn K mM "_law_web" = true) (pB : PySem.W.keepIn K (.ref kj) = true)
    {uX uY : Option Addr} {uZ : Array (Option Value)} {u0 u1 u4 u5 kS u6 : Value}
    (xH : PySem.W.nsIn K mainGlobals "_law_line" = some (some (.ref je))) (xI : K.lookup je = some ⟨u0, uX, .func (PySem.W.fnOf "_law_line" "_law_line" (aS dY) (aN dY) (aj dY) .none u1 u4 u5 uY kS u6), uZ⟩) (jb : PySem.W.codeIn K kS "_law_line" = true) (mO : PySem.W.keepIn K (.ref je) = true)
    {qP qQ : Option Addr} {qR : Array (Option Value)} {qS qT qU qV jL qW : Value}
    (u7 : PySem.W.nsIn K mainGlobals "_law_stand" = some (some (.ref iK))) (va : K.lookup iK = some ⟨qS, qP, .func (PySem.W.fnOf "_law_stand" "_law_stand" (aS dj) (aN dj) (aj dj) .none qT qU qV qQ jL qW), qR⟩) (iF : PySem.W.codeIn K jL "_law_stand" = true) (kT : PySem.W.keepIn K (.ref iK) = true)
    {qX qY : Option Addr} {qZ : Array (Option Value)} {q8 ra rb rc jM re : Value}
    (vb : PySem.W.nsIn K mainGlobals "_law_order" = some (some (.ref iL))) (vc : K.lookup iL = some ⟨q8, qX, .func (PySem.W.fnOf "_law_order" "_law_order" (aS dk) (aN dk) (aj dk) .none ra rb rc qY jM re), qZ⟩) (fj : PySem.W.codeIn K jM "_law_order" = true) (kU : PySem.W.keepIn K (.ref iL) = true)
    {rf rg : Option Addr} {rj : Array (Option Value)} {rk rl rm rn jN rq : Value}
    (vd : PySem.W.nsIn K mainGlobals "_law_round" = some (some (.ref iM))) (vf : K.lookup iM = some ⟨rk, rf, .func (PySem.W.fnOf "_law_round" "_law_round" (aS dl) (aN dl) (aj dl) .none rl rm rn rg jN rq), rj⟩) (ff : PySem.W.codeIn K jN "_law_round" = true) (kW : PySem.W.keepIn K (.ref iM) = true)
    {xJ xK : Option Addr} {xL : Array (Option Value)} {xM xN xO xP mP xQ : Value}
    (Az : PySem.W.nsIn K mainGlobals "_law_due" = some (some (.ref kl))) (AA : K.lookup kl = some ⟨xM, xJ, .func (PySem.W.fnOf "_law_due" "_law_due" (aS eE) (aN eE) (aj eE) .none xN xO xP xK mP xQ), xL⟩) (gj : PySem.W.codeIn K mP "_law_due" = true) (pC : PySem.W.keepIn K (.ref kl) = true)
    {vg vh : Option Addr} {vj : Array (Option Value)} {vk vm vn vq kX vt : Value}
    (xR : PySem.W.nsIn K mainGlobals "_law_told" = some (some (.ref jf))) (xS : K.lookup jf = some ⟨vk, vg, .func (PySem.W.fnOf "_law_told" "_law_told" (aS dZ) (aN dZ) (aj dZ) .none vm vn vq vh kX vt), vj⟩) (d0 : PySem.W.codeIn K kX "_law_told" = true) (mQ : PySem.W.keepIn K (.ref jf) = true)
    {AB AC : Option Addr} {AD : Array (Option Value)} {AE AF AG AH pD AI : Value}
    (C1 : PySem.W.nsIn K mainGlobals "_law_is" = some (some (.ref mw))) (C2 : K.lookup mw = some ⟨AE, AB, .func (PySem.W.fnOf "_law_is" "_law_is" (aS fN) (aN fN) (aj fN) .none AF AG AH AC pD AI), AD⟩) (ia : PySem.W.codeIn K pD "_law_is" = true) (sT : PySem.W.keepIn K (.ref mw) = true)
    {IJ EY : Option Addr} {IK : Array (Option Value)} {IL EZ E3 E4 AJ E5 : Value}
    (JE : PySem.W.nsIn K mainGlobals "law" = some (some (.ref EU))) (JF : K.lookup EU = some ⟨IL, IJ, .func (PySem.W.fnOf "law" "law" (aS kL) (aN kL) (aj kL) .none EZ E3 E4 EY AJ E5), IK⟩) (JG : PySem.W.codeIn K AJ "law" = true) (JH : PySem.W.keepIn K (.ref EU) = true)
    (vv : PySem.W.nsIn K mainGlobals "isinstance" = some none)
    (IM : PySem.W.nsIn K mainGlobals "bool" = some none)
    (JI : PySem.W.nsIn K mainGlobals "int" = some none)
    (JJ : PySem.W.nsIn K mainGlobals "len" = some none)
    (IN : PySem.W.nsIn K mainGlobals "list" = some none)
    (xT : PySem.W.nsIn K mainGlobals "enumerate" = some none)
    (GE : PySem.W.nsIn K mainGlobals "tuple" = some none)
    (JK : PySem.W.nsIn K mainGlobals "sum" = some none)
    (GG : PySem.W.nsIn K mainGlobals "range" = some none)
    (E6 : PySem.W.nsIn K mainGlobals "sorted" = some none)
    (vw : PySem.W.nsIn K mainGlobals "ValueError" = some none)
    (JL : PySem.W.nsIn K mainGlobals "str" = some none)
    {cd_M cd_A_NoStand cd_A_NoOrder : ClassData}
    (xU : PySem.W.nsIn K mainGlobals "MostError" = some (some (.ref bC)))
    (fO : PySem.W.nsIn K mainGlobals "NoStand" = some (some (.ref aV)))
    (fP : PySem.W.nsIn K mainGlobals "NoOrder" = some (some (.ref aW)))
    (AK : PySem.W.nsIn K mainGlobals "NoPeople" = some (some (.ref dR)))
    (E7 : PySem.W.nsIn K mainGlobals "NoRest" = some (some (.ref gf)))
    (GH : PySem.W.nsIn K mainGlobals "NoRow" = some (some (.ref iC)))
    (E8 : PySem.W.nsIn K mainGlobals "NoText" = some (some (.ref gh)))
    (GI : PySem.W.nsIn K mainGlobals "NoWeb" = some (some (.ref iD)))
    (C3 : PySem.W.nsIn K mainGlobals "TooLong" = some (some (.ref eF)))
    (C4 : PySem.W.nsIn K mainGlobals "TooMuch" = some (some (.ref eG)))
    (w_be : PySem.W.subIn K (.ref bC) (.type "BaseException") = some true)
    (w_is : PySem.W.clsIn K bC = some cd_M)
    (w_ty : PySem.W.typeIn K (.ref bC) = some (.type "type"))
    (w_own_NoStand : PySem.W.excIn K aV [.type "ValueError", .type "Exception", .type "BaseException", .type "object"] "ValueError.__new__" = true)
    (w_sub_NoStand : PySem.W.subIn K (.ref aV) (.ref bC) = some true)
    (w_z1_NoStand : PySem.W.findIn K (.ref aV) "__getattribute__" = some (some (.builtin "BaseException.__getattribute__")))
    (w_z2_NoStand : PySem.W.findIn K (.ref aV) "__getattr__" = some none)
    (w_z3_NoStand : PySem.W.findIn K (.ref aV) "__class__" = some (some (.builtin "object.__class__")))
    (w_z4_NoStand : PySem.W.subIn K (.ref aV) (.type "BaseException") = some true)
    (w_z5_NoStand : PySem.W.mroIn K aV (.type "object") = some true)
    (w_z6_NoStand : PySem.W.clsIn K aV = some cd_A_NoStand)
    (w_kA_NoStand_ValueError : PySem.W.kitOne K (.ref aV) (.type "ValueError") = some true)
    (w_kA_NoStand_NoStand : PySem.W.kitOne K (.ref aV) (.ref aV) = some true)
    (w_kA_NoStand_NoOrder : PySem.W.kitOne K (.ref aV) (.ref aW) = some false)
    (w_kA_NoStand_T0 : PySem.W.kitAny K (.ref aV) [.ref dR, .ref gf, .ref iC, .ref gh, .ref iD, .ref eF, .ref eG] = some false)
    (w_own_NoOrder : PySem.W.excIn K aW [.type "ValueError", .type "Exception", .type "BaseException", .type "object"] "ValueError.__new__" = true)
    (w_sub_NoOrder : PySem.W.subIn K (.ref aW) (.ref bC) = some true)
    (w_z1_NoOrder : PySem.W.findIn K (.ref aW) "__getattribute__" = some (some (.builtin "BaseException.__getattribute__")))
    (w_z2_NoOrder : PySem.W.findIn K (.ref aW) "__getattr__" = some none)
    (w_z3_NoOrder : PySem.W.findIn K (.ref aW) "__class__" = some (some (.builtin "object.__class__")))
    (w_z4_NoOrder : PySem.W.subIn K (.ref aW) (.type "BaseException") = some true)
    (w_z5_NoOrder : PySem.W.mroIn K aW (.type "object") = some true)
    (w_z6_NoOrder : PySem.W.clsIn K aW = some cd_A_NoOrder)
    (w_kA_NoOrder_ValueError : PySem.W.kitOne K (.ref aW) (.type "ValueError") = some true)
    (w_kA_NoOrder_NoStand : PySem.W.kitOne K (.ref aW) (.ref aV) = some false)
    (w_kA_NoOrder_NoOrder : PySem.W.kitOne K (.ref aW) (.ref aW) = some true)
    (w_kA_NoOrder_T0 : PySem.W.kitAny K (.ref aW) [.ref dR, .ref gf, .ref iC, .ref gh, .ref iD, .ref eF, .ref eG] = some false)
    : ∃ fd : FuncData, (∀ (s : Shared) (v : Value), BindsTo s fd ⟨[v], []⟩ [("_law_script", v)]) ∧ ∀ base : Heap, K.In base → base.Ns mainGlobals mg → ce l.prog w K mg base CX0 8 fa fd ["_law_script"] (spF K BB 1) := by
  have e := hfa.symm.trans (PySem.W.mg_of X G JE)
  cases e
  have aK := PySem.W.mg_none_of X G vv
  have lP := PySem.W.mg_none_of X G IM
  have iQ := PySem.W.mg_none_of X G JI
  have bQ := PySem.W.mg_none_of X G JJ
  have c9 := PySem.W.mg_none_of X G IN
  have cm := PySem.W.mg_none_of X G xT
  have bf := PySem.W.mg_none_of X G GE
  have iR := PySem.W.mg_none_of X G JK
  have bc := PySem.W.mg_none_of X G GG
  have hV := PySem.W.mg_none_of X G E6
  have iB := PySem.W.mg_none_of X G vw
  have ET := PySem.W.mg_none_of X G JL
  have ja := PySem.W.mg_of X G xU
  have hW := PySem.W.mg_of X G fO
  have hZ := PySem.W.mg_of X G fP
  have ke := PySem.W.mg_of X G AK
  have oF := PySem.W.mg_of X G E7
  have ux := PySem.W.mg_of X G GH
  have oG := PySem.W.mg_of X G E8
  have uy := PySem.W.mg_of X G GI
  have l7 := PySem.W.mg_of X G C3
  have l8 := PySem.W.mg_of X G C4
  have pE := bz (st := eA) zj ka oJ
  have AL := pE.binds (ps := ["thing"]) fun _ _ _ _ _ _ us hl => by obtain ⟨_, rfl⟩ := ge us hl; rfl
  have kY := bz (st := de) uA iz kM
  have vx := kY.binds (ps := ["thing", "least", "most"]) fun _ _ _ _ _ _ us hl => by obtain ⟨_, _, _, rfl⟩ := eQ us hl; rfl
  have kZ := bz (st := df) uC iA kN
  have vy := kZ.binds (ps := ["thing"]) fun _ _ _ _ _ _ us hl => by obtain ⟨_, rfl⟩ := ge us hl; rfl
  have sU := bz (st := fF) Cy lQ sK
  have C5 := sU.binds (ps := ["web"]) fun _ _ _ _ _ _ us hl => by obtain ⟨_, rfl⟩ := ge us hl; rfl
  have sV := bz (st := fG) CA lS sL
  have C6 := sV.binds (ps := ["web", "person"]) fun _ _ _ _ _ _ us hl => by obtain ⟨_, _, rfl⟩ := cc us hl; rfl
  have xV := bz (st := hJ) EW oE xa
  have E9 := xV.binds (ps := ["web", "person"]) fun _ _ _ _ _ _ us hl => by obtain ⟨_, _, rfl⟩ := cc us hl; rfl
  have sW := bz (st := fH) CN hU sN
  have C7 := sW.binds (ps := ["web", "person"]) fun _ _ _ _ _ _ us hl => by obtain ⟨_, _, rfl⟩ := cc us hl; rfl
  have pF := bz (st := eB) zM kb oO
  have AM := pF.binds (ps := ["web"]) fun _ _ _ _ _ _ us hl => by obtain ⟨_, rfl⟩ := ge us hl; rfl
  have sX := bz (st := fI) CP lX sO
  have C8 := sX.binds (ps := ["web"]) fun _ _ _ _ _ _ us hl => by obtain ⟨_, rfl⟩ := ge us hl; rfl
  have Fa := bz (st := lO) II zg EX
  have IO := Fa.binds (ps := ["web", "thing"]) fun _ _ _ _ _ _ us hl => by obtain ⟨_, _, rfl⟩ := cc us hl; rfl
  have jO := bz (st := cP) qs qt jG
  have rA := jO.binds (ps := ["web", "thing"]) fun _ _ _ _ _ _ us hl => by obtain ⟨_, _, rfl⟩ := cc us hl; rfl
  have sY := bz (st := fJ) CS lU sP
  have C9 := sY.binds (ps := ["web", "stand", "person"]) fun _ _ _ _ _ _ us hl => by obtain ⟨_, _, _, rfl⟩ := eQ us hl; rfl
  have sZ := bz (st := fK) CU lV sQ
  have Da := sZ.binds (ps := ["web", "stand", "person"]) fun _ _ _ _ _ _ us hl => by obtain ⟨_, _, _, rfl⟩ := eQ us hl; rfl
  have jP := bz (st := cQ) qv qw jH
  have rC := jP.binds (ps := ["web", "order"]) fun _ _ _ _ _ _ us hl => by obtain ⟨_, _, rfl⟩ := cc us hl; rfl
  have k8 := bz (st := dg) uE fg kO
  have vz := k8.binds (ps := ["web", "stand", "order"]) fun _ _ _ _ _ _ us hl => by obtain ⟨_, _, _, rfl⟩ := eQ us hl; rfl
  have s0 := bz (st := fL) CW lZ sR
  have Db := s0.binds (ps := ["stand", "changes"]) fun _ _ _ _ _ _ us hl => by obtain ⟨_, _, rfl⟩ := cc us hl; rfl
  have tf := bz (st := fM) CZ C0 sS
  have Dc := tf.binds (ps := ["web", "stand", "order"]) fun _ _ _ _ _ _ us hl => by obtain ⟨_, _, _, rfl⟩ := eQ us hl; rfl
  have mR := bz (st := dW) xm eR mJ
  have xW := mR.binds (ps := ["_law_script", "_law_k"]) fun _ _ _ _ _ _ us hl => by obtain ⟨_, _, rfl⟩ := cc us hl; rfl
  have mS := bz (st := dX) xo cq mK
  have xX := mS.binds (ps := ["_law_script", "_law_k"]) fun _ _ _ _ _ _ us hl => by obtain ⟨_, _, rfl⟩ := cc us hl; rfl
  have lc := bz (st := dh) uW au kR
  have vA := lc.binds (ps := ["_law_state", "_law_most"]) fun _ _ _ _ _ _ us hl => by obtain ⟨_, _, rfl⟩ := cc us hl; rfl
  have jQ := bz (st := cR) qO gO jK
  have rE := jQ.binds (ps := ["_law_state", "_law_sort"]) fun _ _ _ _ _ _ us hl => by obtain ⟨_, _, rfl⟩ := cc us hl; rfl
  have pG := bz (st := eC) Aw kc pA
  have AN := pG.binds (ps := ["_law_state", "_law_total"]) fun _ _ _ _ _ _ us hl => by obtain ⟨_, _, rfl⟩ := cc us hl; rfl
  have pH := bz (st := eD) Ay kf pB
  have AO := pH.binds (ps := ["_law_script"]) fun _ _ _ _ _ _ us hl => by obtain ⟨_, rfl⟩ := ge us hl; rfl
  have mT := bz (st := dY) xI jb mO
  have xY := mT.binds (ps := ["_law_head"]) fun _ _ _ _ _ _ us hl => by obtain ⟨_, rfl⟩ := ge us hl; rfl
  have lf := bz (st := dj) va iF kT
  have vB := lf.binds (ps := ["_law_web_here", "_law_states"]) fun _ _ _ _ _ _ us hl => by obtain ⟨_, _, rfl⟩ := cc us hl; rfl
  have lg := bz (st := dk) vc fj kU
  have vC := lg.binds (ps := ["_law_script", "_law_many"]) fun _ _ _ _ _ _ us hl => by obtain ⟨_, _, rfl⟩ := cc us hl; rfl
  have lh := bz (st := dl) vf ff kW
  have vD := lh.binds (ps := ["_law_web_here", "_law_stand_here", "_law_order_here"]) fun _ _ _ _ _ _ us hl => by obtain ⟨_, _, _, rfl⟩ := eQ us hl; rfl
  have pI := bz (st := eE) AA gj pC
  have AQ := pI.binds (ps := ["_law_web_here", "_law_stand_here", "_law_order_here"]) fun _ _ _ _ _ _ us hl => by obtain ⟨_, _, _, rfl⟩ := eQ us hl; rfl
  have mU := bz (st := dZ) xS d0 mQ
  have xZ := mU.binds (ps := ["_law_web_here", "_law_stand_here", "_law_order_here"]) fun _ _ _ _ _ _ us hl => by obtain ⟨_, _, _, rfl⟩ := eQ us hl; rfl
  have tj := bz (st := fN) C2 ia sT
  have Dd := tj.binds (ps := ["_law_found", "_law_due_here"]) fun _ _ _ _ _ _ us hl => by obtain ⟨_, _, rfl⟩ := cc us hl; rfl
  have JM := bz (st := kL) JF JG JH
  refine ⟨PySem.W.fnOf "law" "law" (aS kL) (aN kL) (aj kL) .none EZ E3 E4 EY AJ E5, fun s v => .of_eq rfl, fun base KB _ => ?_⟩
  have lW := El (mg := mg) KB hW w_own_NoStand
  have jy : m7 K aV := ⟨w_z1_NoStand, w_z2_NoStand, w_z3_NoStand, w_z4_NoStand, w_z5_NoStand, by rw [w_z6_NoStand]; rfl⟩
  have lY := El (mg := mg) KB hZ w_own_NoOrder
  have jz : m7 K aW := ⟨w_z1_NoOrder, w_z2_NoOrder, w_z3_NoOrder, w_z4_NoOrder, w_z5_NoOrder, by rw [w_z6_NoOrder]; rfl⟩
  have iE : lH K (fun C b => PySem.W.kitOne K (.ref C) (kC (.ty "ValueError")) = some b) [("NoStand", true), ("NoOrder", true)] := (gx fO jy w_kA_NoStand_ValueError (gx fP jz w_kA_NoOrder_ValueError ua))
  have l9 : lH K (fun C b => PySem.W.kitOne K (.ref C) (kC (.ref aV)) = some b) [("NoStand", true), ("NoOrder", false)] := (gx fO jy w_kA_NoStand_NoStand (gx fP jz w_kA_NoOrder_NoStand ua))
  have ma : lH K (fun C b => PySem.W.kitOne K (.ref C) (kC (.ref aW)) = some b) [("NoStand", false), ("NoOrder", true)] := (gx fO jy w_kA_NoStand_NoOrder (gx fP jz w_kA_NoOrder_NoOrder ua))
  have t_T0 : lH K (fun C b => PySem.W.kitAny K (.ref C) ([.ref dR, .ref gf, .ref iC, .ref gh, .ref iD, .ref eF, .ref eG].map kC) = some b) [("NoStand", false), ("NoOrder", false)] := (gx fO jy w_kA_NoStand_T0 (gx fP jz w_kA_NoOrder_T0 ua))
  have h_cs : Ca K mg bC ["NoStand", "NoOrder"] := (Bq hW fO w_sub_NoStand (Bq hZ fP w_sub_NoOrder Ij))
  have AR : Def l.prog w K mg base "is_whole" 1 1 dH := Def.mk' (PySem.W.mg_of X G zi) oJ AL (wN (P := l.prog) (w := w) (base := base) pE aK lP iQ)
  have vE : Def l.prog w K mg base "is_between" 2 3 eg := Def.mk' (PySem.W.mg_of X G uz) kM vx (pT (P := l.prog) (w := w) (base := base) kY AR)
  have vF : Def l.prog w K mg base "is_opinion" 3 1 bI := Def.mk' (PySem.W.mg_of X G uB) kN vy (pV (P := l.prog) (w := w) (base := base) kZ vE)
  have De : Def l.prog w K mg base "many_of" 1 1 dS := Def.mk' (PySem.W.mg_of X G Cw) sK C5 (yX (P := l.prog) (w := w) (base := base) sU bQ)
  have Df : Def l.prog w K mg base "ties_of" 1 2 g8 := Def.mk' (PySem.W.mg_of X G Cz) sL C6 (yZ (P := l.prog) (w := w) (base := base) sV)
  have Fb : Def l.prog w K mg base "bar_of" 1 2 i4 := Def.mk' (PySem.W.mg_of X G EV) xa E9 (Cu (P := l.prog) (w := w) (base := base) xV)
  have tm : Def l.prog w K mg base "stay_of" 1 2 en := Def.mk' (PySem.W.mg_of X G CM) sN C7 (y4 (P := l.prog) (w := w) (base := base) sW)
  have AS : Def l.prog w K mg base "stays_of" 1 1 cw := Def.mk' (PySem.W.mg_of X G zL) oO AM (wP (P := l.prog) (w := w) (base := base) pF c9)
  have Dg : Def l.prog w K mg base "free_of" 2 1 fA := Def.mk' (PySem.W.mg_of X G CO) sO C8 (y8 (P := l.prog) (w := w) (base := base) sX cm AS)
  have IP : Def l.prog w K mg base "fits" 4 2 dI := Def.mk' (PySem.W.mg_of X G IH) EX IO (Gv (P := l.prog) (w := w) (base := base) Fa cm bQ aK bf tm vF De)
  have Dh : Def l.prog w K mg base "pull_at" 2 3 fq := Def.mk' (PySem.W.mg_of X G CQ) sP C9 (zb (P := l.prog) (w := w) (base := base) sY iR Df)
  have Di : Def l.prog w K mg base "next_at" 3 3 cO := Def.mk' (PySem.W.mg_of X G CT) sQ Da (zc (P := l.prog) (w := w) (base := base) sZ Fb Dh tm)
  have vG : Def l.prog w K mg base "changes_at" 4 3 bV := Def.mk' (PySem.W.mg_of X G uD) kO vz (pW (P := l.prog) (w := w) (base := base) k8 cm c9 Di)
  have Dj : Def l.prog w K mg base "changed" 1 2 er := Def.mk' (PySem.W.mg_of X G CV) sR Db (zd (P := l.prog) (w := w) (base := base) s0 bf c9)
  have mV : Def l.prog w K mg base "_law_wide" 1 2 cC := Def.mk' (PySem.W.mg_of X G xl) mJ xW (ur (P := l.prog) (w := w) (base := base) mR bc bQ)
  have jj : Def l.prog w K mg base "_law_cell" 2 2 aY := Def.mk' (PySem.W.mg_of X G xn) mK xX (uu (P := l.prog) (w := w) (base := base) mS bQ mV)
  have cJ : Def l.prog w K mg base "_law_digit" 1 2 ar := Def.mk' (PySem.W.mg_of X G uV) kR vA (pX (P := l.prog) (w := w) (base := base) lc)
  have rF : Def l.prog w K mg base "_law_weight" 2 2 cI := Def.mk' (PySem.W.mg_of X G qN) jK rE (oC (P := l.prog) (w := w) (base := base) jQ iQ cJ)
  have AT : Def l.prog w K mg base "_law_bar" 2 2 eK := Def.mk' (PySem.W.mg_of X G Av) pA AN (wQ (P := l.prog) (w := w) (base := base) pG cJ)
  have AU : Def l.prog w K mg base "_law_web" 3 1 jv := Def.mk' (PySem.W.mg_of X G Ax) pB AO (wR (P := l.prog) (w := w) (base := base) pH bf hV bc iR cJ AT rF jj)
  have x5 : Def l.prog w K mg base "_law_line" 2 1 eP := Def.mk' (PySem.W.mg_of X G xH) mO xY (uv (P := l.prog) (w := w) (base := base) mT bf hV bc iR cJ)
  have vH : Def l.prog w K mg base "_law_stand" 2 2 fD := Def.mk' (PySem.W.mg_of X G u7) kT vB (pY (P := l.prog) (w := w) (base := base) lf bf bc bQ cJ)
  have vI : Def l.prog w K mg base "_law_order" 3 2 dc := Def.mk' (PySem.W.mg_of X G vb) kU vC (pZ (P := l.prog) (w := w) (base := base) lg bc bQ cJ jj)
  have vJ : Def l.prog w K mg base "_law_round" 1 3 fE := Def.mk' (PySem.W.mg_of X G vd) kW vD (p5 (P := l.prog) (w := w) (base := base) lh bf iQ iR c9)
  have AV : Def l.prog w K mg base "_law_due" 2 3 e9 := Def.mk' (PySem.W.mg_of X G Az) pC AQ (wS (P := l.prog) (w := w) (base := base) pI bc bQ vJ)
  have rG : m8 l.prog w K mg base "check_stand" 5 2 b8 := m8.mk' (PySem.W.mg_of X G qq) jG rA (ng (P := l.prog) (w := w) (base := base) jO IP lW)
  have rH : m8 l.prog w K mg base "check_order" 3 2 b9 := m8.mk' (PySem.W.mg_of X G qu) jH rC (nh (P := l.prog) (w := w) (base := base) jP Dg lY)
  have Dk : m8 l.prog w K mg base "settled" 6 3 cx := m8.mk' (PySem.W.mg_of X G CY) sS Dc (wT (P := l.prog) (w := w) (base := base) tf vG Dj rH rG)
  have x6 : Def l.prog w K mg base "_law_told" 7 3 cN := Def.mk' (PySem.W.mg_of X G xR) mQ xZ (uw (P := l.prog) (w := w) (base := base) mU aK iB bQ hW hZ ke oF ux oG uy l7 l8 ja iE l9 ma t_T0 w_be (by rw [w_is]; rfl) w_ty h_cs Dk)
  have Dl : Def l.prog w K mg base "_law_is" 1 2 iw := Def.mk' (PySem.W.mg_of X G C1) sT Dd (zf (P := l.prog) (w := w) (base := base) tj aK lP iQ bf bQ ET)
  exact IE (P := l.prog) (w := w) (base := base) JM bc bQ c9 Dl AV x6 mV cJ vI x5 jj vH AU
end Fm
set_option Elab.async false
set_option linter.all false
set_option maxRecDepth 100000
def PySem.W.Fast.tw90343872475197607 : Type := PySem.Params
theorem PySem.W.Fast.te90343872475197607 : PySem.Params = PySem.W.Fast.tw90343872475197607 := rfl
open PySem PySem.W PyProof.Rows
set_option maxRecDepth 100000 in
set_option maxHeartbeats 0 in
theorem PySem.Challenge.cw_followmost_k18_settled_by_an_order_holds : PySem.Challenge.rw_followmost_k18_settled_by_an_order.Holds := by
  w_on; o_law; k_head; (case hw => w_witness2)
  k_fill
  refine Fm.Ju (l := PySem.Challenge.rw_followmost_k18_settled_by_an_order) (F := Fm.BB) (k := 8) (x := "_law_script") rfl rfl ⟨rfl, by decide, by decide⟩ (fun w h Y => PySem.W.kIn_of Y) ?F Fm.ID
  case F =>
    intro w mg fa h KX G hmg
    refine' Fm.IG KX G hmg ?_ ?_ ?_ ?_ ?_ ?_ ?_ ?_ ?_ ?_ ?_ ?_ ?_ ?_ ?_ ?_ ?_ ?_ ?_ ?_ ?_ ?_ ?_ ?_ ?_ ?_ ?_ ?_ ?_ ?_ ?_ ?_ ?_ ?_ ?_ ?_ ?_ ?_ ?_ ?_ ?_ ?_ ?_ ?_ ?_ ?_ ?_ ?_ ?_ ?_ ?_ ?_ ?_ ?_ ?_ ?_ ?_ ?_ ?_ ?_ ?_ ?_ ?_ ?_ ?_ ?_ ?_ ?_ ?_ ?_ ?_ ?_ ?_ ?_ ?_ ?_ ?_ ?_ ?_ ?_ ?_ ?_ ?_ ?_ ?_ ?_ ?_ ?_ ?_ ?_ ?_ ?_ ?_ ?_ ?_ ?_ ?_ ?_ ?_ ?_ ?_ ?_ ?_ ?_ ?_ ?_ ?_ ?_ ?_ ?_ ?_ ?_ ?_ ?_ ?_ ?_ ?_ ?_ ?_ ?_ ?_ ?_ ?_ ?_ ?_ ?_ ?_ ?_ ?_ ?_ ?_ ?_ ?_ ?_ ?_ ?_ ?_ ?_ ?_ ?_ ?_ ?_ ?_ ?_ ?_ ?_ ?_ ?_ ?_ ?_ ?_ ?_ ?_ ?_ ?_ ?_ ?_ ?_ ?_ ?_ ?_ ?_ ?_ ?_ ?_ ?_ ?_ ?_ ?_ ?_ ?_ ?_ ?_
    all_goals try first | k_is | k_exc | kit_is
