import PyProof.Rows.All
import Wide.All
import OpenK.AllK
import Wide.FinOn
import Lean
import PyProof.EqAt
import PyProof.EqKinds
import PyProof.TupleCall
import PyProof.NeKinds
import PyProof.IsInstanceH
import PyProof.IsiNone
import PyProof.EnumMake
import PyProof.Draws
import PyProof.ZipIter
import PyProof.ListRange
import KE.RegKIsAll
import PyProof.ExcAttrAll.ValueError
import PyProof.NsDelKeeps
import PySem.Challenge.RW_followmost_k10_histories_told
set_option Elab.async false
set_option linter.all false
set_option maxRecDepth 100000
namespace L2
open PySem PySem.Spec PyProof.Rows
noncomputable abbrev Key := Sum Int Str
noncomputable def keyIs : Key → Value → Bool
  | .inl k, v => Value.isInt k v
  | .inr x, v => Value.isStrOf x v
noncomputable def keyH (w : World) : Key → Int
  | .inl k => hashInt k
  | .inr x => hashStr w x
theorem keyIs_shape : ∀ {k : Key} {v : Value}, keyIs k v = true → (∃ i t, k = Sum.inl i ∧ v = Value.int i t) ∨ (∃ x t, k = Sum.inr x ∧ v = Value.str x t)
  | .inl i, v, h => by
    obtain ⟨t, e⟩ := Value.isInt_shape (k := i) (v := v) h
    exact .inl ⟨i, t, rfl, e⟩
  | .inr x, v, h => by
    obtain ⟨t, e⟩ := Value.isStrOf_shape (x := x) (v := v) h
    exact .inr ⟨x, t, rfl, e⟩
theorem key_ll (a b : Int) : decide ((Sum.inl a : Key) = Sum.inl b) = (a == b) := by
  by_cases e : a = b
  · subst e; simp
  · have h : ¬ (Sum.inl a : Key) = Sum.inl b := fun q => e (Sum.inl.inj q)
    rw [decide_eq_false h]
    exact (beq_eq_false_iff_ne.mpr e).symm
theorem key_rr (a b : Str) : decide ((Sum.inr a : Key) = Sum.inr b) = decide (a = b) := by
  by_cases e : a = b
  · subst e; simp
  · have h : ¬ (Sum.inr a : Key) = Sum.inr b := fun q => e (Sum.inr.inj q)
    rw [decide_eq_false h, decide_eq_false e]
theorem key_lr (a : Int) (b : Str) : decide ((Sum.inl a : Key) = Sum.inr b) = false := decide_eq_false (fun q => nomatch q)
theorem key_rl (a : Str) (b : Int) : decide ((Sum.inr a : Key) = Sum.inl b) = false := decide_eq_false (fun q => nomatch q)
noncomputable def mixKind (prog : Program) (w : World) : PySem.KeyKind prog w Key where
  is := keyIs
  hash := keyH w
  inj := fun v a b ha hb => by
    rcases keyIs_shape ha with ⟨i, t, rfl, rfl⟩ | ⟨x, t, rfl, rfl⟩
    · rcases keyIs_shape hb with ⟨j, u, rfl, e⟩ | ⟨y, u, rfl, e⟩
      · injection e with e1 _; rw [e1]
      · exact nomatch e
    · rcases keyIs_shape hb with ⟨j, u, rfl, e⟩ | ⟨y, u, rfl, e⟩
      · exact nomatch e
      · injection e with e1 _; rw [e1]
  byValue := fun k v h => by
    rcases keyIs_shape h with ⟨i, t, rfl, rfl⟩ | ⟨x, t, rfl, rfl⟩ <;> rfl
  pyHash := fun hv h => by
    rcases keyIs_shape hv with ⟨i, t, rfl, rfl⟩ | ⟨x, t, rfl, rfl⟩
    · exact wpAny_pyHash_int h
    · exact wpAny_pyHash_str h
  eqBool := fun hu hv h => by
    rcases keyIs_shape hu with ⟨i, t, rfl, rfl⟩ | ⟨x, t, rfl, rfl⟩
    · rcases keyIs_shape hv with ⟨j, u, rfl, rfl⟩ | ⟨y, u, rfl, rfl⟩
      · rw [key_ll] at h; exact wpAny_eqBool_int h
      · rw [key_lr] at h; exact SeqAt.EqAt.int_str i t y u _ _ _ _ h
    · rcases keyIs_shape hv with ⟨j, u, rfl, rfl⟩ | ⟨y, u, rfl, rfl⟩
      · rw [key_rl] at h; exact SeqAt.EqAt.str_int x t j u _ _ _ _ h
      · rw [key_rr] at h; exact wpAny_eqBool_str h
  «strs» := fun k x t v h => by
    rcases keyIs_shape h with ⟨i, u, rfl, e⟩ | ⟨y, u, rfl, e⟩
    · exact nomatch e
    · injection e with e1 _
      subst e1
      cases v <;> rfl
end L2
namespace L2
open PySem PySem.Spec PyProof.Rows
inductive V where
  | non | bl (b : Bool) | int (i : Int) | str (x : Str) | byt (b : Array UInt8) | flt (b : UInt64) | ref (a : Addr) | ty (n : String)
  deriving DecidableEq
noncomputable def RelV : V → Value → Prop
  | .non, u => u = Value.none
  | .bl b, u => u = Value.bool b
  | .int i, u => ∃ t, u = Value.int i t
  | .str x, u => ∃ t, u = Value.str x t
  | .byt b, u => ∃ t, u = Value.bytes b t
  | .flt b, u => ∃ t, u = Value.float b t
  | .ref a, u => u = Value.ref a
  | .ty n, u => u = Value.type n
noncomputable abbrev Vals : List V → List Value → Prop := Paired RelV
theorem Vals.length {xs : List V} {us : List Value} (r : Vals xs us) : xs.length = us.length := Paired.length r
theorem Vals.get : ∀ {xs : List V} {us : List Value} {i : Nat} {x : V}, Vals xs us → xs[i]? = some x → ∃ u, us[i]? = some u ∧ RelV x u
  | _, _, _, _, .nil, e => by simp at e
  | _, _, 0, _, .cons r _, e => by simp at e; subst e; exact ⟨_, rfl, r⟩
  | _, _, i + 1, x, .cons _ t, e => by
    obtain ⟨u, h1, h2⟩ := Vals.get (i := i) (x := x) t (by simpa using e)
    exact ⟨u, by simpa using h1, h2⟩
theorem Vals.set {x : V} {u : Value} (r : RelV x u) : ∀ {xs : List V} {us : List Value} (i : Nat), Vals xs us → Vals (xs.set i x) (us.set i u)
  | _, _, _, .nil => .nil
  | _, _, 0, .cons _ t => .cons r t
  | _, _, i + 1, .cons q t => .cons q (Vals.set r i t)
theorem Vals.append : ∀ {xs ys : List V} {us ws : List Value}, Vals xs us → Vals ys ws → Vals (xs ++ ys) (us ++ ws)
  | _, _, _, _, .nil, s => s
  | _, _, _, _, .cons r t, s => .cons r (Vals.append t s)
theorem Vals.take : ∀ {xs : List V} {us : List Value} (n : Nat), Vals xs us → Vals (xs.take n) (us.take n)
  | _, _, 0, _ => .nil
  | _, _, _ + 1, .nil => .nil
  | _, _, n + 1, .cons r t => .cons r (Vals.take n t)
theorem Vals.drop : ∀ {xs : List V} {us : List Value} (n : Nat), Vals xs us → Vals (xs.drop n) (us.drop n)
  | _, _, 0, r => r
  | _, _, _ + 1, .nil => .nil
  | _, _, n + 1, .cons _ t => Vals.drop n t
noncomputable def RelO : Option V → Option Value → Prop
  | some v, some u => RelV v u
  | none, none => True
  | _, _ => False
noncomputable def KV {κ : Type} : List (κ × V) → List (κ × Value) → Prop := Paired fun (p : κ × V) (q : κ × Value) => p.1 = q.1 ∧ RelV p.2 q.2
noncomputable def kV : Key → V
  | .inl i => .int i
  | .inr x => .str x
inductive HO where
    | lst (xs : List V)
    | tup (xs : List V)
    | dK (kvs : List (Key × V)) | dT (kvs : List (List Key × V))
    | set (S : Int → Bool) (n : Nat)
    | ins (C dx : Addr) (fs : List (Str × V))
    | own (x : Addr)
    | xd (fs : List (Str × V))
    | met (f x : Addr)
    | rng (lo hi : Int)
    | frz (o : Obj) (u : HO)
    | tbl (ps : Array Value)
    | ext (φ : Heap → Prop)
noncomputable abbrev Hp := Addr → Option HO
noncomputable def upd (H : Hp) (a : Addr) (o : HO) : Hp := fun b => if b = a then some o else H b
theorem upd_same {H : Hp} {a : Addr} {o : HO} : upd H a o a = some o := by unfold upd; rw [if_pos rfl]
theorem upd_ne {H : Hp} {a b : Addr} {o : HO} (h : b ≠ a) : upd H a o b = H b := by unfold upd; rw [if_neg h]
theorem ne_of_none {H : Hp} {a b : Addr} {o : HO} (h : H a = some o) (h' : H b = none) : a ≠ b := by
  intro e; subst e; rw [h] at h'; cases h'
section
variable (P : Program) (w : World)
noncomputable def ObjOk (H : Hp) (h : Heap) (a : Addr) : HO → Prop
  | .lst xs => xs.length ≤ sizeLine ∧ ∃ (its : List Value) (n : Nat), Vals xs its ∧ h.get? a = some { cls := .type "list", data := .seq its.toArray n }
  | .tup xs => xs.length ≤ sizeLine ∧ ∃ its : List Value, Vals xs its ∧ IsTup h a its.toArray
  | .dK kvs => kvs.length ≤ sizeLine ∧ (a == sysModules) = false ∧ ∃ vs, KV kvs vs ∧ h.DictOf (mixKind P w) a vs
  | .dT kvs => kvs.length ≤ sizeLine ∧ (a == sysModules) = false ∧ ∃ xs : List (List Key × Addr × Value),
      Paired (fun (p : List Key × V) (q : List Key × Addr × Value) => p.1 = q.1 ∧ H q.2.1 = some (.tup (p.1.map kV)) ∧ RelV p.2 q.2.2) kvs xs ∧
      ∃ o es ep, h.get? a = some o ∧ o.ExactDict ∧ o.data = .dict es ep ∧ es.toList = xs.map (entryOfKey (tupleKind (mixKind P w))) ∧ (xs.map (·.1)).Nodup
  | .set S n => h.SetOf (intKind P w) a S n
  | .ins C dx fs => H dx = some (.own a) ∧ fs.length ≤ 1000 ∧ dx ≠ a ∧ h.get? a = some (PySem.W.instObj C dx) ∧
      ∃ mA, h.Ns1 dx mA ∧ (∀ f, RelO (fs.lookup f) (mA f)) ∧ PySem.Within mA (fs.map (·.1))
  | .own _ => ∃ o, h.get? a = some o
  | .xd fs => ∃ mA, h.Ns1 a mA ∧ ∀ f, RelO (fs.lookup f) (mA f)
  | .rng lo hi => ∃ t u v, h.get? a = some { cls := .type "range", data := .fields #[.int lo t, .int hi u, .int 1 v] }
  | .frz o u => h.get? a = some o ∧ ObjOk H h a u
  | .tbl ps => h.get? a = some { cls := .none, data := .fields ps }
  | .met f x => h.get? a = some (PySem.W.methodObj (.ref f) (.ref x))
  | .ext φ => φ h ∧ (∃ o, h.get? a = some o) ∧ ∀ h1 h2 : Heap, φ h1 → (∀ o, h1.get? a = some o → h2.get? a = some o) → φ h2
noncomputable def HOk (H : Hp) (h : Heap) : Prop := ∀ a o, H a = some o → ObjOk P w H h a o
end
section
variable {P : Program} {w : World} {H H' : Hp} {h h' : Heap} {a : Addr} {o : HO}
theorem ObjOk.lt (x : ObjOk P w H h a o) : a < h.objs.size := by
  cases o with
  | lst xs => obtain ⟨_, _, _, _, e⟩ := x; exact Heap.lt_size e
  | tup xs => obtain ⟨_, _, _, p⟩ := x; exact p.lt
  | dK kvs => obtain ⟨_, _, _, _, o, _, _, e, _⟩ := x; exact Heap.lt_size e
  | dT kvs => obtain ⟨_, _, _, _, o, _, _, e, _⟩ := x; exact Heap.lt_size e
  | set S n => obtain ⟨o, _, _, _, e, _⟩ := x; exact Heap.lt_size e
  | ins C dx fs => obtain ⟨_, _, _, e, _⟩ := x; exact Heap.lt_size e
  | own y => obtain ⟨_, e⟩ := x; exact Heap.lt_size e
  | xd fs => obtain ⟨_, ⟨_, _, _, e, _⟩, _⟩ := x; exact Heap.lt_size e
  | rng lo hi => obtain ⟨_, _, _, e⟩ := x; exact Heap.lt_size e
  | frz ob u => obtain ⟨e, _⟩ := x; exact Heap.lt_size e
  | tbl ps => exact Heap.lt_size (show h.get? a = some _ from x)
  | met f y => exact Heap.lt_size (show h.get? a = some _ from x)
  | ext φ => obtain ⟨_, ⟨_, e⟩, _⟩ := x; exact Heap.lt_size e
theorem Paired.mapP {α β : Type} {F G : α → β → Prop} : ∀ {l₁ : List α} {l₂ : List β}, Paired F l₁ l₂ → (∀ a b, F a b → G a b) → Paired G l₁ l₂
  | _, _, .nil, _ => .nil
  | _, _, .cons r t, f => .cons (f _ _ r) (Paired.mapP t f)
theorem ObjOk.stay (x : ObjOk P w H h a o) (k : ∀ b u, (b = a ∨ H b = some (.own a)) → h.get? b = some u → h'.get? b = some u)
    (ho : ∀ b, H b = some (.own a) → H' b = some (.own a)) (ht : ∀ b xs, H b = some (.tup xs) → H' b = some (.tup xs)) : ObjOk P w H' h' a o := by
  induction o with
  | lst xs => obtain ⟨z, its, n, r, e⟩ := x; exact ⟨z, its, n, r, k _ _ (.inl rfl) e⟩
  | tup xs => obtain ⟨z, its, r, ob, e, c⟩ := x; exact ⟨z, its, r, ob, k _ _ (.inl rfl) e, c⟩
  | dK kvs => obtain ⟨z, y, vs, r, ob, es, ep, e, c⟩ := x; exact ⟨z, y, vs, r, ob, es, ep, k _ _ (.inl rfl) e, c⟩
  | dT kvs =>
    obtain ⟨z, y, xs, r, ob, es, ep, e, c⟩ := x
    exact ⟨z, y, xs, Paired.mapP r fun p q z => ⟨z.1, ht _ _ z.2.1, z.2.2⟩, ob, es, ep, k _ _ (.inl rfl) e, c⟩
  | set S n => obtain ⟨ob, es, ep, t, e, c⟩ := x; exact ⟨ob, es, ep, t, k _ _ (.inl rfl) e, c⟩
  | ins C dx fs =>
    obtain ⟨d, z, ne, e, mA, ⟨od, es, ep, e2, c⟩, r⟩ := x
    exact ⟨ho _ d, z, ne, k _ _ (.inl rfl) e, mA, ⟨od, es, ep, k _ _ (.inr d) e2, c⟩, r⟩
  | own y => obtain ⟨ob, e⟩ := x; exact ⟨ob, k _ _ (.inl rfl) e⟩
  | xd fs => obtain ⟨mA, ⟨od, es, ep, e, c⟩, r⟩ := x; exact ⟨mA, ⟨od, es, ep, k _ _ (.inl rfl) e, c⟩, r⟩
  | rng lo hi => obtain ⟨t, u, v, e⟩ := x; exact ⟨t, u, v, k _ _ (.inl rfl) e⟩
  | frz ob u ih => obtain ⟨e, q⟩ := x; exact ⟨k _ _ (.inl rfl) e, ih q⟩
  | tbl ps =>
    have e : h.get? a = some { cls := .none, data := .fields ps } := x
    show h'.get? a = some { cls := .none, data := .fields ps }
    exact k a _ (.inl rfl) e
  | met f y =>
    have e : h.get? a = some (PySem.W.methodObj (.ref f) (.ref y)) := x
    show h'.get? a = some (PySem.W.methodObj (.ref f) (.ref y))
    exact k a _ (.inl rfl) e
  | ext φ => obtain ⟨p, ⟨o, e⟩, st⟩ := x; exact ⟨st _ _ p fun o q => k _ _ (.inl rfl) q, ⟨o, k _ _ (.inl rfl) e⟩, st⟩
theorem HOk.lt (x : HOk P w H h) (e : H a = some o) : a < h.objs.size := (x a o e).lt
theorem HOk.fresh (x : HOk P w H h) (e : h.objs.size ≤ a) : H a = none := by
  cases q : H a with
  | none => rfl
  | some u => exact absurd (Nat.lt_of_lt_of_le (x.lt q) e) (Nat.lt_irrefl _)
theorem HOk.kept (x : HOk P w H h) (k : ∀ b u, h.get? b = some u → h'.get? b = some u) : HOk P w H h' := fun a o e =>
  (x a o e).stay (fun b u _ q => k b u q) (fun _ q => q) fun _ _ q => q
theorem HOk.laid (x : HOk P w H h) (k : ∀ b u, h.get? b = some u → h'.get? b = some u) (hp : h.objs.size ≤ a) (new : ObjOk P w (upd H a o) h' a o) : HOk P w (upd H a o) h' := fun b u e => by
  have hn := x.fresh hp
  by_cases hb : b = a
  · subst hb; rw [upd_same] at e; cases e; exact new
  · rw [upd_ne hb] at e
    exact (x b u e).stay (fun c v _ q => k c v q) (fun c q => by rw [upd_ne (ne_of_none q hn)]; exact q) fun c xs q => by rw [upd_ne (ne_of_none q hn)]; exact q
end
noncomputable def Rd (H : Hp) (a : Addr) (u : HO) : Prop := H a = some u ∨ ∃ o, H a = some (.frz o u)
theorem Rd.ok {P : Program} {w : World} {H : Hp} {h : Heap} {a : Addr} {u : HO} (r : Rd H a u) (x : HOk P w H h) : ObjOk P w H h a u := by
  rcases r with r | ⟨o, r⟩
  · exact x a u r
  · obtain ⟨_, q⟩ := x a _ r
    exact q
noncomputable def Mut : Option HO → Prop
  | some (.lst _) => True
  | some (.dK _) => True
  | some (.dT _) => True
  | some (.set _ _) => True
  | some (.ins _ _ _) => True
  | some (.ext _) => True
  | _ => False
section
variable {P : Program} {w : World} {H : Hp} {h h' : Heap} {x e : Addr} {o' : HO}
theorem HOk.write (ok : HOk P w H h) (mu : Mut (H x)) (he : e = x ∨ H e = some (.own x)) (k : ∀ b u, b ≠ e → h.get? b = some u → h'.get? b = some u) (heo : ∃ u, h'.get? e = some u)
    (new : ObjOk P w (upd H x o') h' x o') : HOk P w (upd H x o') h' := fun b u q => by
  have nown : ∀ c y, H c = some (.own y) → c ≠ x := fun c y r z => by subst z; rw [r] at mu; exact mu
  have ntup : ∀ c xs, H c = some (.tup xs) → c ≠ x := fun c xs r z => by subst z; rw [r] at mu; exact mu
  by_cases hb : b = x
  · subst hb; rw [upd_same] at q; cases q; exact new
  · rw [upd_ne hb] at q
    by_cases hbe : b = e
    · have q' : H b = some (.own x) := by
        rcases he with z | z
        · exact absurd (hbe.trans z) hb
        · rw [hbe]; exact z
      rw [q] at q'; cases q'
      obtain ⟨v, hv⟩ := heo
      exact ⟨v, by rw [hbe]; exact hv⟩
    · refine (ok b u q).stay (fun c v hc r => k c v ?_ r) (fun c r => by rw [upd_ne (nown c b r)]; exact r) fun c xs r => by rw [upd_ne (ntup c xs r)]; exact r
      rcases hc with rfl | hc
      · exact hbe
      · rintro rfl
        rcases he with z | z
        · exact nown c b hc z
        · rw [hc] at z; cases z; exact hb rfl
end
structure Un (fs ex : List Addr) (H H' : Hp) (h h' : Heap) : Prop where
  keep : ∀ b o, h.get? b = some o → H b = none → b ∉ fs → b ∉ ex → h'.get? b = some o
  slot : ∀ b o, h.get? b = some o → H b = none → b ∈ fs → b ∉ ex → ∃ sl, h'.get? b = some { o with slots := sl }
  free : ∀ b o, h.get? b = some o → H b = none → b ∉ ex → H' b = none
  there : ∀ b o, h.get? b = some o → b ∉ ex → ∃ o', h'.get? b = some o'
  tups : ∀ b xs, H b = some (.tup xs) → H' b = some (.tup xs)
  frzs : ∀ b o u, H b = some (.frz o u) → H' b = some (.frz o u)
  tbls : ∀ b ps, H b = some (.tbl ps) → ∃ more, H' b = some (.tbl (ps ++ more))
section
variable {fs fs' ex ex' : List Addr} {H H1 H2 : Hp} {h h1 h2 h' : Heap} {a x e : Addr} {o : HO}
theorem Un.any (u : Un fs ex H H1 h h1) {b : Addr} {ob : Obj} (q : h.get? b = some ob) (n : H b = none) (hx : b ∉ ex) : ∃ sl, h1.get? b = some { ob with slots := sl } := by
  by_cases hb : b ∈ fs
  · exact u.slot b ob q n hb hx
  · exact ⟨ob.slots, u.keep b ob q n hb hx⟩
theorem Un.kept (k : ∀ b u, h.get? b = some u → h'.get? b = some u) : Un fs ex H H h h' :=
  ⟨fun b ob q _ _ _ => k b ob q, fun b ob q _ _ _ => ⟨ob.slots, k b ob q⟩, fun _ _ _ n _ => n, fun b ob q _ => ⟨ob, k b ob q⟩, fun _ _ q => q, fun _ _ _ q => q, fun _ ps q => ⟨#[], by rw [q]; simp⟩⟩
theorem Un.refl : Un fs ex H H h h := Un.kept fun _ _ q => q
theorem Un.laid (k : ∀ b u, h.get? b = some u → h'.get? b = some u) (hp : h.objs.size ≤ a) (hn : H a = none) : Un fs ex H (upd H a o) h h' where
  keep := fun b u q _ _ _ => k b u q
  slot := fun b u q _ _ _ => ⟨u.slots, k b u q⟩
  free := fun b u q n _ => by rw [upd_ne (Nat.ne_of_lt (Nat.lt_of_lt_of_le (Heap.lt_size q) hp))]; exact n
  there := fun b u q _ => ⟨u, k b u q⟩
  tups := fun b xs q => by rw [upd_ne (ne_of_none q hn)]; exact q
  frzs := fun b u xs q => by rw [upd_ne (ne_of_none q hn)]; exact q
  tbls := fun b ps q => ⟨#[], by rw [upd_ne (ne_of_none q hn), q]; simp⟩
theorem Un.write (mu : Mut (H x)) (he : e = x ∨ H e = some (.own x)) (k : ∀ b u, b ≠ e → h.get? b = some u → h'.get? b = some u) (heo : ∃ u, h'.get? e = some u) : Un fs ex H (upd H x o) h h' := by
  have hx : ∀ b, H b = none → b ≠ x := fun b n z => by subst z; rw [n] at mu; exact mu
  have hb : ∀ b, H b = none → b ≠ e := fun b n z => by
    subst z
    rcases he with r | r
    · exact hx b n r
    · rw [n] at r; cases r
  have hm : ∀ b u, H b = some u → ¬ Mut (some u) → b ≠ x := fun b u q nm z => by subst z; rw [q] at mu; exact nm mu
  refine ⟨fun b u q n _ _ => k b u (hb b n) q, fun b u q n _ _ => ⟨u.slots, k b u (hb b n) q⟩, fun b u q n _ => by rw [upd_ne (hx b n)]; exact n, fun b u q _ => ?_,
    fun b xs q => by rw [upd_ne (hm b _ q fun z => z)]; exact q, fun b u xs q => by rw [upd_ne (hm b _ q fun z => z)]; exact q, fun b ps q => ⟨#[], by rw [upd_ne (hm b _ q fun z => z), q]; simp⟩⟩
  by_cases hbe : b = e
  · subst hbe; exact heo
  · exact ⟨u, k b u hbe q⟩
end
noncomputable def trk (h : Heap) (H : Hp) : List Addr := (List.range h.objs.size).filter fun a => (H a).isSome
noncomputable def hidT (h : Heap) (H : Hp) : Heap := PySem.W.hideAll h (trk h H)
theorem hidT_size (h : Heap) (H : Hp) : (hidT h H).objs.size = h.objs.size := PySem.W.hideAll_size _ _
theorem hidT_get {h : Heap} {H : Hp} {b : Addr} {o : Obj} (e : h.get? b = some o) (n : H b = none) : (hidT h H).get? b = some o :=
  PySem.W.hideAll_get _ e fun hm => by
    have q : (H b).isSome = true := (List.mem_filter.mp hm).2
    rw [n] at q; simp at q
theorem of_hidT {h : Heap} {H : Hp} {b : Addr} {o : Obj} (e : (hidT h H).get? b = some o) : h.get? b = some o ∧ H b = none := by
  have e' : h.get? b = some o := PySem.W.of_hideAll (trk h H) e
  refine ⟨e', ?_⟩
  cases q : H b with
  | none => rfl
  | some x =>
    have hm : b ∈ trk h H := List.mem_filter.mpr ⟨List.mem_range.mpr (Heap.lt_size e'), by simp [q]⟩
    have z : (hidT h H).get? b = none := PySem.W.hideAll_none (trk h H) hm
    rw [z] at e; cases e
noncomputable def allNews (g h : Heap) (L : Addr) : List (Addr × Obj) := (List.range h.objs.size).filterMap fun a => if a = L ∨ (g.get? a).isSome = true then none else (h.get? a).map fun o => (a, o)
noncomputable def rest (g h : Heap) (L d : Addr) : List (Addr × Obj) := (allNews g h L).filter fun p => decide (p.1 ≠ d)
end L2
namespace L2
open PySem PySem.Spec PyProof.Rows
structure Mod (K : PySem.W.Frag) (mg : Str → Option Value) (base : Heap) : Prop where
  kin : K.In base
  glob : base.Ns mainGlobals mg
  blt : ∃ mb, base.Ns builtinsNs mb ∧ ∀ x : Str, x ≠ "__name__" → mb x = bootBuiltins x
  nolimit : base.NoLimit
structure Cx where
  prog : Program
  w : World
  K : PySem.W.Frag
  mg : Str → Option Value
  base : Heap
  A : Around
  N : List Str
  s₀ : Shared
  H₀ : Hp
  env : Env
  outer : List Env
  stack : List Env
  ex : List Addr
  fn : Str → Bool
  calm : Bool
  pn : List (Addr × Obj)
  xe : Value → Shared → Prop
noncomputable def frs (l : List Env) : List Addr := l.filterMap (·.frame)
noncomputable abbrev Cx.fs (X : Cx) : List Addr := frs X.outer
noncomputable def Vis (sc : Scope) (x : Str) : Prop := sc.names.lookup x = some .local ∨ sc.names.lookup x = some .cell ∨ sc.names.lookup x = some .free
noncomputable def Loc (sc : Scope) (x : Str) : Prop := sc.names.lookup x = some .local ∨ sc.names.lookup x = some .cell
noncomputable def Look (env : Env) (h : Heap) (m : Str → Option Value) (x : Str) (u : Value) : Prop :=
  (env.kindOf x = some .local ∧ m x = some u) ∨ ((env.kindOf x = some .cell ∨ env.kindOf x = some .free) ∧ ∃ c, env.cells.lookup x = some c ∧ h.IsCell c (some u))
structure Cx.Ok (X : Cx) : Prop where
  mod : Mod X.K X.mg X.base
  kind : X.env.scope.kind = .function
  glob : X.env.globals = mainGlobals
  blt : X.env.builtins = builtinsNs
  above : X.s₀.heap.objs.size ≤ X.env.locals
  inj : ∀ x y c, X.env.cells.lookup x = some c → X.env.cells.lookup y = some c → x = y
  has : ∀ x, (X.env.kindOf x = some .cell ∨ X.env.kindOf x = some .free) → ∃ c, X.env.cells.lookup x = some c
  cab : ∀ x c, X.fn x = true → X.env.cells.lookup x = some c → X.s₀.heap.objs.size ≤ c
  hd : X.calm = true → X.A.handled = none
  frames : X.A.frames = some X.stack
  stk : X.stack = X.outer ∨ (X.stack = X.env :: X.outer ∧ X.env.frame = some X.env.locals)
  exf : ∀ b ∈ X.ex, b ≠ X.env.locals ∧ ∀ x c, X.env.cells.lookup x = some c → c ≠ b
  bs : ∀ b o, X.base.get? b = some o → X.s₀.heap.get? b = some o ∧ X.H₀ b = none
  bsz : X.base.objs.size ≤ X.s₀.heap.objs.size
  noex : ∀ b o, X.base.get? b = some o → b ∉ X.ex
  exfs : ∀ b ∈ X.ex, b ∉ X.fs
  funs : X.s₀.heap.FunFrames X.base X.outer
  frf : ∀ b ∈ X.fs, X.H₀ b = none
structure Inv (X : Cx) (pins : List (Addr × Obj)) (σ : List (Option V)) (H : Hp) (s : Shared) : Prop where
  ok : X.Ok
  os : s.os = X.s₀.os
  bare : AllBare s.gens
  base : Un X.fs X.ex X.H₀ H X.s₀.heap s.heap
  loc : ∃ m, s.heap.Ns X.env.locals m ∧ ∀ (i : Nat) (x : Str) (v : V), X.N[i]? = some x → σ[i]? = some (some v) → Vis X.env.scope x → ∃ u, RelV v u ∧ Look X.env s.heap m x u
  cell : ∀ x c, X.env.cells.lookup x = some c → ∃ v, s.heap.IsCell c v
  free : H X.env.locals = none
  freeC : ∀ x c, X.env.cells.lookup x = some c → H c = none
  pin : ∀ p ∈ X.pn ++ pins, s.heap.get? p.1 = some p.2 ∧ H p.1 = none ∧ p.1 ≠ X.env.locals ∧ p.1 ∉ X.fs ∧ ∀ v, p.2.data ≠ .cell v
  hok : HOk X.prog X.w H s.heap
  len : σ.length = X.N.length
section
variable {X : Cx} {pins : List (Addr × Obj)} {σ : List (Option V)} {H H' : Hp} {s : Shared} {h' : Heap}
theorem Cx.Ok.nofr (ok : X.Ok) {b : Addr} {o : Obj} (e : X.base.get? b = some o) : b ∉ X.fs := fun hb => by
  have := (ok.funs.mem hb).1
  rw [e] at this; cases this
theorem Inv.bs (I : Inv X pins σ H s) : ∀ b o, X.base.get? b = some o → s.heap.get? b = some o ∧ H b = none := fun b o e =>
  ⟨I.base.keep b o (I.ok.bs b o e).1 (I.ok.bs b o e).2 (I.ok.nofr e) (I.ok.noex b o e), I.base.free b o (I.ok.bs b o e).1 (I.ok.bs b o e).2 (I.ok.noex b o e)⟩
theorem Inv.bk (I : Inv X pins σ H s) : ∀ b o, X.base.get? b = some o → s.heap.get? b = some o := fun b o e => (I.bs b o e).1
theorem Inv.mod (I : Inv X pins σ H s) : Mod X.K X.mg X.base := I.ok.mod
theorem Inv.kIn (I : Inv X pins σ H s) : X.K.In s.heap := I.ok.mod.kin.keeps I.bk
theorem Inv.lt (I : Inv X pins σ H s) : X.env.locals < s.heap.objs.size := let ⟨_, hn, _⟩ := I.loc; hn.lt
theorem Inv.sz (I : Inv X pins σ H s) : X.s₀.heap.objs.size ≤ s.heap.objs.size := Nat.le_trans I.ok.above (Nat.le_of_lt I.lt)
theorem Inv.nofs (I : Inv X pins σ H s) {a : Addr} (h : s.heap.objs.size ≤ a) : a ∉ X.fs := fun hb => by
  obtain ⟨_, o, ho, _⟩ := I.ok.funs.mem hb
  exact absurd (Nat.lt_of_lt_of_le (Heap.lt_size ho) (Nat.le_trans I.sz h)) (Nat.lt_irrefl _)
theorem Inv.cne (I : Inv X pins σ H s) : ∀ x c, X.env.cells.lookup x = some c → c ≠ X.env.locals := fun x c e z => by
  obtain ⟨v, o, ho, hd⟩ := I.cell x c e
  obtain ⟨m, ⟨o', es, ep, ho', hd', _⟩, _⟩ := I.loc
  rw [z, ho'] at ho; cases ho; rw [hd'] at hd; cases hd
theorem Inv.funs (I : Inv X pins σ H s) : s.heap.FunFrames X.base X.outer := by
  have all : ∀ (l : List Env), (∀ b ∈ frs l, b ∈ X.fs) → X.s₀.heap.FunFrames X.base l → s.heap.FunFrames X.base l := by
    intro l
    induction l with
    | nil => intro _ _; trivial
    | cons env r ih =>
      intro hs hl
      obtain ⟨hk, ⟨L, o, hf, hn, ho, hd⟩, hr⟩ := hl
      have hL : L ∈ X.fs := hs L (by unfold frs; rw [List.filterMap_cons, hf]; exact List.mem_cons_self)
      obtain ⟨sl, e⟩ := I.base.slot L o ho (I.ok.frf L hL) hL fun z => I.ok.exfs L z hL
      exact ⟨hk, ⟨L, _, hf, hn, e, hd⟩, ih (fun b hb => hs b (by unfold frs; rw [List.filterMap_cons, hf]; exact List.mem_cons_of_mem _ hb)) hr⟩
  exact all X.outer (fun _ hb => hb) I.ok.funs
theorem Inv.stack (I : Inv X pins σ H s) : s.heap.FunFrames X.base X.stack := by
  rcases I.ok.stk with e | ⟨e, hf⟩
  · rw [e]; exact I.funs
  · rw [e]
    obtain ⟨m, hn, _⟩ := I.loc
    refine .cons (by rw [I.ok.kind]; decide) hf hn ?_ I.funs
    exact Heap.get?_none_of_le (Nat.le_trans I.ok.bsz I.ok.above)
theorem Inv.stkSub (I : Inv X pins σ H s) : ∀ b ∈ frs X.stack, b ∈ X.env.locals :: X.fs := fun b hb => by
  rcases I.ok.stk with e | ⟨e, hf⟩
  · rw [e] at hb; exact List.mem_cons_of_mem _ hb
  · rw [e] at hb
    unfold frs at hb
    rw [List.filterMap_cons, hf] at hb
    exact hb
theorem Inv.stkFree (I : Inv X pins σ H s) : ∀ b ∈ frs X.stack, H b = none := fun b hb => by
  rcases List.mem_cons.mp (I.stkSub b hb) with e | hb
  · rw [e]; exact I.free
  · obtain ⟨_, o, ho, _⟩ := I.ok.funs.mem hb
    exact I.base.free b o ho (I.ok.frf b hb) fun z => I.ok.exfs b z hb
theorem Inv.step {g' : Array GenState} {t' : Nat} {d' : Drawn} {ch : List Addr} (I : Inv X pins σ H s)
    (hch : ∀ b ∈ ch, (b ∈ X.ex ∨ X.s₀.heap.objs.size ≤ b) ∧ b ≠ X.env.locals ∧ (∀ x c, X.env.cells.lookup x = some c → c ≠ b) ∧ ∀ p ∈ X.pn ++ pins, p.1 ≠ b)
    (keep : ∀ b o, b ≠ X.env.locals → b ∉ X.fs → b ∉ ch → s.heap.get? b = some o → H b = none → h'.get? b = some o)
    (slot : ∀ b o, b ≠ X.env.locals → b ∈ X.fs → b ∉ ch → s.heap.get? b = some o → H b = none → ∃ sl, h'.get? b = some { o with slots := sl }) (free : ∀ b o, b ∉ ch → s.heap.get? b = some o → H b = none → H' b = none)
    (there : ∀ b o, b ∉ ch → s.heap.get? b = some o → ∃ o', h'.get? b = some o')
    (tups : ∀ b xs, H b = some (.tup xs) → H' b = some (.tup xs)) (frzs : ∀ b o u, H b = some (.frz o u) → H' b = some (.frz o u)) (tbls : ∀ b ps, H b = some (.tbl ps) → ∃ more, H' b = some (.tbl (ps ++ more)))
    (ns : ∀ m, s.heap.Ns X.env.locals m → h'.Ns X.env.locals m) (hok : HOk X.prog X.w H' h') (hg : AllBare g') :
    Inv X pins σ H' { s with heap := h', gens := g', drawn := d', toks := t' } := by
  have neL : ∀ b o, X.s₀.heap.get? b = some o → b ≠ X.env.locals := fun b o e => Nat.ne_of_lt (Nat.lt_of_lt_of_le (Heap.lt_size e) I.ok.above)
  have neC : ∀ b o, X.s₀.heap.get? b = some o → b ∉ X.ex → b ∉ ch := fun b o e hx hb => by
    rcases (hch b hb).1 with z | z
    · exact hx z
    · exact absurd (Nat.lt_of_lt_of_le (Heap.lt_size e) z) (Nat.lt_irrefl _)
  have cellK : ∀ x c, X.env.cells.lookup x = some c → ∀ v, s.heap.IsCell c v → h'.IsCell c v := fun x c e v ⟨o, ho, hd⟩ => by
    have nch : c ∉ ch := fun z => (hch c z).2.2.1 x c e rfl
    by_cases hc : c ∈ X.fs
    · obtain ⟨sl, q⟩ := slot c o (I.cne x c e) hc nch ho (I.freeC x c e)
      exact ⟨_, q, hd⟩
    · exact ⟨o, keep c o (I.cne x c e) hc nch ho (I.freeC x c e), hd⟩
  refine ⟨I.ok, I.os, hg, ⟨fun b o e n hb hx => ?_, fun b o e n hb hx => ?_, fun b o e n hx => ?_, fun b o e hx => ?_, fun b xs e => tups b xs (I.base.tups b xs e), fun b o xs e => frzs b o xs (I.base.frzs b o xs e), fun b ps e => ?_⟩, ?_, fun x c e => ?_, ?_, fun x c e => ?_, fun p hp => ?_, hok, I.len⟩
  · exact keep b o (neL b o e) hb (neC b o e hx) (I.base.keep b o e n hb hx) (I.base.free b o e n hx)
  · obtain ⟨sl, e1⟩ := I.base.slot b o e n hb hx
    obtain ⟨sl', e2⟩ := slot b _ (neL b o e) hb (neC b o e hx) e1 (I.base.free b o e n hx)
    exact ⟨sl', e2⟩
  · obtain ⟨o', e1⟩ := I.base.there b o e hx
    exact free b o' (neC b o e hx) e1 (I.base.free b o e n hx)
  · obtain ⟨o', e1⟩ := I.base.there b o e hx
    exact there b o' (neC b o e hx) e1
  · obtain ⟨m1, e1⟩ := I.base.tbls b ps e
    obtain ⟨m2, e2⟩ := tbls b _ e1
    exact ⟨m1 ++ m2, by rw [e2, Array.append_assoc]⟩
  · obtain ⟨m, hn, hl⟩ := I.loc
    refine ⟨m, ns m hn, fun i x v e1 e2 e3 => ?_⟩
    obtain ⟨u, r, l⟩ := hl i x v e1 e2 e3
    refine ⟨u, r, ?_⟩
    rcases l with l | ⟨k, c, e, z⟩
    · exact .inl l
    · exact .inr ⟨k, c, e, cellK x c e _ z⟩
  · obtain ⟨v, z⟩ := I.cell x c e
    exact ⟨v, cellK x c e v z⟩
  · obtain ⟨m, ⟨o, _, _, ho, _⟩, _⟩ := I.loc
    exact free _ o (fun z => (hch _ z).2.1 rfl) ho I.free
  · obtain ⟨v, o, ho, hd⟩ := I.cell x c e
    exact free c o (fun z => (hch c z).2.2.1 x c e rfl) ho (I.freeC x c e)
  · obtain ⟨e, n, ne, nf, d⟩ := I.pin p hp
    have nch : p.1 ∉ ch := fun z => (hch p.1 z).2.2.2 p hp rfl
    exact ⟨keep p.1 p.2 ne nf nch e n, free p.1 p.2 nch e n, ne, nf, d⟩
theorem Inv.un {t' : Nat} (I : Inv X pins σ H s) (u : Un X.fs [] H H' s.heap h') (hok : HOk X.prog X.w H' h') : Inv X pins σ H' { s with heap := h', toks := t' } := by
  obtain ⟨m, ⟨o, es, ep, ho, r⟩, _⟩ := id I.loc
  obtain ⟨sl, hL⟩ := u.any ho I.free (by simp)
  exact I.step (g' := s.gens) (d' := s.drawn) (ch := []) (fun _ z => nomatch z) (fun b o _ hb _ e n => u.keep b o e n hb (by simp)) (fun b o _ hb _ e n => u.slot b o e n hb (by simp)) (fun b o _ e n => u.free b o e n (by simp)) (fun b o _ e => u.there b o e (by simp)) u.tups u.frzs u.tbls (fun m' hm => by
    obtain ⟨o', es', ep', ho', r'⟩ := hm
    rw [ho] at ho'; cases ho'
    exact ⟨_, es', ep', hL, r'⟩) hok I.bare
theorem Inv.call {g' : Array GenState} {t' : Nat} {d' : Drawn} {ch : List Addr} (I : Inv X pins σ H s) (u : Un (frs X.stack) ch H H' s.heap h') (hok : HOk X.prog X.w H' h') (hg : AllBare g')
    (hch : ∀ b ∈ ch, (b ∈ X.ex ∨ X.s₀.heap.objs.size ≤ b) ∧ b ≠ X.env.locals ∧ (∀ x c, X.env.cells.lookup x = some c → c ≠ b) ∧ ∀ p ∈ X.pn ++ pins, p.1 ≠ b) :
    Inv X pins σ H' { s with heap := h', gens := g', drawn := d', toks := t' } := by
  obtain ⟨m, ⟨o, es, ep, ho, r⟩, _⟩ := id I.loc
  obtain ⟨sl, hL⟩ := u.any ho I.free fun z => (hch _ z).2.1 rfl
  exact I.step (ch := ch) hch (fun b o hL hb hc e n => u.keep b o e n (fun z => (List.mem_cons.mp (I.stkSub b z)).elim hL hb) hc) (fun b o _ _ hc e n => u.any e n hc) (fun b o hc e n => u.free b o e n hc) (fun b o hc e => u.there b o e hc) u.tups u.frzs u.tbls (fun m' hm => by
    obtain ⟨o', es', ep', ho', r'⟩ := hm
    rw [ho] at ho'; cases ho'
    exact ⟨_, es', ep', hL, r'⟩) hok hg
theorem Inv.turned {t' : Nat} {it : Addr} (I : Inv X pins σ H s) (k : ∀ b o, b ≠ it → s.heap.get? b = some o → h'.get? b = some o) (hn : H it = none) (hL : it ≠ X.env.locals)
    (h1 : it ∈ X.ex ∨ X.s₀.heap.objs.size ≤ it) (h2 : ∀ x c, X.env.cells.lookup x = some c → c ≠ it) (h3 : ∀ p ∈ X.pn ++ pins, p.1 ≠ it) : Inv X pins σ H { s with heap := h', toks := t' } := by
  have nit : ∀ b u, H b = some u → b ≠ it := fun b u e z => by rw [z, hn] at e; cases e
  refine I.step (g' := s.gens) (d' := s.drawn) (ch := [it]) (fun b hb => ?_) (fun b o _ _ hc e _ => k b o (fun z => hc (by simp [z])) e) (fun b o _ _ hc e _ => ⟨o.slots, k b o (fun z => hc (by simp [z])) e⟩) (fun _ _ _ _ n => n)
    (fun b o hc e => ⟨o, k b o (fun z => hc (by simp [z])) e⟩) (fun _ _ e => e) (fun _ _ _ e => e) (fun b ps e => ⟨#[], by rw [e]; simp⟩) (fun m hm => ?_) (fun b u e => ?_) I.bare
  · have e : b = it := by simpa using hb
    subst e
    exact ⟨h1, hL, h2, h3⟩
  · obtain ⟨o, es, ep, ho, r⟩ := hm
    exact ⟨o, es, ep, k _ o (Ne.symm hL) ho, r⟩
  · refine (I.hok b u e).stay (fun c v hc q => k c v ?_ q) (fun _ q => q) fun _ _ q => q
    rcases hc with z | z
    · rw [z]; exact nit b u e
    · exact nit c _ z
theorem Inv.tok (I : Inv X pins σ H s) (t : Nat) : Inv X pins σ H { s with toks := t } := I.un (h' := s.heap) (t' := t) Un.refl I.hok
theorem Inv.kept {t' : Nat} (I : Inv X pins σ H s) (k : ∀ b u, s.heap.get? b = some u → h'.get? b = some u) : Inv X pins σ H { s with heap := h', toks := t' } := I.un (Un.kept k) (I.hok.kept k)
theorem Inv.laid {a : Addr} {o : HO} {t' : Nat} (I : Inv X pins σ H s) (k : ∀ b u, s.heap.get? b = some u → h'.get? b = some u) (hp : s.heap.objs.size ≤ a) (new : ObjOk X.prog X.w (upd H a o) h' a o) :
    Inv X pins σ (upd H a o) { s with heap := h', toks := t' } := I.un (Un.laid k hp (I.hok.fresh hp)) (I.hok.laid k hp new)
theorem Inv.write {x e : Addr} {o : HO} {t' : Nat} (I : Inv X pins σ H s) (mu : Mut (H x)) (he : e = x ∨ H e = some (.own x)) (k : ∀ b u, b ≠ e → s.heap.get? b = some u → h'.get? b = some u) (heo : ∃ u, h'.get? e = some u)
    (new : ObjOk X.prog X.w (upd H x o) h' x o) : Inv X pins σ (upd H x o) { s with heap := h', toks := t' } := I.un (Un.write mu he k heo) (I.hok.write mu he k heo new)
theorem Inv.pins_of {pins' : List (Addr × Obj)} (I : Inv X pins σ H s) (h : ∀ p ∈ pins', s.heap.get? p.1 = some p.2 ∧ H p.1 = none ∧ p.1 ≠ X.env.locals ∧ p.1 ∉ X.fs ∧ ∀ v, p.2.data ≠ .cell v) : Inv X pins' σ H s :=
  ⟨I.ok, I.os, I.bare, I.base, I.loc, I.cell, I.free, I.freeC, fun p hp => (List.mem_append.mp hp).elim (fun z => I.pin p (List.mem_append_left _ z)) (h p), I.hok, I.len⟩
theorem nodup_ix {N : List Str} (hN : N.Nodup) {i j : Nat} {x : Str} (a : N[i]? = some x) (b : N[j]? = some x) : i = j := by
  obtain ⟨h1, e1⟩ := List.getElem?_eq_some_iff.mp a
  obtain ⟨h2, e2⟩ := List.getElem?_eq_some_iff.mp b
  exact (List.getElem_inj hN).mp (e1.trans e2.symm)
theorem store_ok2 {M : Model} {A : Around} {E : Value → Shared → Prop} {i : Nat} {x : Str} {v : V} {u : Value} {Q : Unit → Shared → Prop} (I : Inv X pins σ H s) (hN : X.N.Nodup) (hi : X.N[i]? = some x) (hx : Loc X.env.scope x) (r : RelV v u)
    (h : ∀ s', Inv X pins (σ.set i (some v)) H s' → (∃ a, Heap.SameBut a s.heap s'.heap ∧ (a = X.env.locals ∨ X.env.cells.lookup x = some a)) → Q () s') (hf : X.fn x = true ∨ X.env.scope.names.lookup x = some .local := by first | exact .inl rfl | exact .inr rfl | assumption) : wpAny M A (storeName X.env x u) Q E s := by
  obtain ⟨m, hn, hl⟩ := id I.loc
  have hcls : (X.env.scope.kind == .class || (X.env.scope.kind == .module && X.env.locals != X.env.globals)) = false := by rw [I.ok.kind]; rfl
  have hiσ : i < σ.length := by rw [I.len]; exact (List.getElem?_eq_some_iff.mp hi).1
  have cne := I.cne
  have tracked : ∀ {a : Addr} {h' : Heap}, (∃ o, s.heap.get? a = some o ∧ H a = none) → Heap.SameBut a s.heap h' → HOk X.prog X.w H h' := fun {a h'} ha hs b ob e => by
    obtain ⟨_, _, hfree⟩ := ha
    refine (I.hok b ob e).stay (fun c w' hc q => (hs.2 c ?_).trans q) (fun _ q => q) fun _ _ q => q
    rintro rfl
    rcases hc with rfl | hc
    · rw [hfree] at e; cases e
    · rw [hfree] at hc; cases hc
  rcases hx with hk | hk
  · refine wpAny_storeName_local hk hn (fun h' hn' hs => ?_) hcls
    obtain ⟨oL, _, _, hoL, _⟩ := id hn
    refine h _ ⟨I.ok, I.os, I.bare, ⟨fun b o e n hb hx => ?_, fun b o e n hb hx => ?_, I.base.free, fun b o e hx => ?_, I.base.tups, I.base.frzs, I.base.tbls⟩, ⟨_, hn', fun j y v' e1 e2 e3 => ?_⟩, fun y c e => ?_, I.free, I.freeC, fun p hp => ?_, tracked ⟨oL, hoL, I.free⟩ hs, by simpa using I.len⟩ ⟨_, hs, .inl rfl⟩
    · exact (hs.2 b (Nat.ne_of_lt (Nat.lt_of_lt_of_le (Heap.lt_size e) I.ok.above))).trans (I.base.keep b o e n hb hx)
    · obtain ⟨sl, e1⟩ := I.base.slot b o e n hb hx
      exact ⟨sl, (hs.2 b (Nat.ne_of_lt (Nat.lt_of_lt_of_le (Heap.lt_size e) I.ok.above))).trans e1⟩
    · obtain ⟨o', e1⟩ := I.base.there b o e hx
      exact ⟨o', (hs.2 b (Nat.ne_of_lt (Nat.lt_of_lt_of_le (Heap.lt_size e) I.ok.above))).trans e1⟩
    · by_cases hj : j = i
      · subst hj
        rw [hi] at e1; cases e1
        rw [List.getElem?_set_self hiσ] at e2
        cases e2
        exact ⟨u, r, .inl ⟨hk, by simp⟩⟩
      · rw [List.getElem?_set_ne (Ne.symm hj)] at e2
        obtain ⟨u', r', q⟩ := hl j y v' e1 e2 e3
        refine ⟨u', r', ?_⟩
        rcases q with ⟨k, e⟩ | ⟨k, c, e, z⟩
        · refine .inl ⟨k, ?_⟩
          have : y ≠ x := fun e => hj (nodup_ix hN e1 (e ▸ hi))
          simp [this, e]
        · exact .inr ⟨k, c, e, z.sameBut hs (cne y c e)⟩
    · obtain ⟨w', z⟩ := I.cell y c e
      exact ⟨w', z.sameBut hs (cne y c e)⟩
    · obtain ⟨e, n, ne, nf, d⟩ := I.pin p hp
      exact ⟨(hs.2 p.1 ne).trans e, n, ne, nf, d⟩
  · have hfn : X.fn x = true := by
      rcases hf with z | z
      · exact z
      · rw [z] at hk; cases hk
    obtain ⟨c, hc⟩ := I.ok.has x (.inl hk)
    obtain ⟨w', z⟩ := I.cell x c hc
    refine wpAny_storeName_cell I.ok.kind hk hc z (fun h' hc' hs => ?_)
    obtain ⟨oc, hoc, hocd⟩ := id z
    refine h { s with heap := h' } ⟨I.ok, I.os, I.bare, ⟨fun b o e n hb hx => ?_, fun b o e n hb hx => ?_, I.base.free, fun b o e hx => ?_, I.base.tups, I.base.frzs, I.base.tbls⟩, ⟨m, hn.sameBut hs (Ne.symm (cne x c hc)), fun j y v' e1 e2 e3 => ?_⟩, fun y c' e => ?_, I.free, I.freeC, fun p hp => ?_, tracked ⟨oc, hoc, I.freeC x c hc⟩ hs, by simpa using I.len⟩ ⟨c, hs, .inr hc⟩
    · exact (hs.2 b (Nat.ne_of_lt (Nat.lt_of_lt_of_le (Heap.lt_size e) (I.ok.cab x c hfn hc)))).trans (I.base.keep b o e n hb hx)
    · obtain ⟨sl, e1⟩ := I.base.slot b o e n hb hx
      exact ⟨sl, (hs.2 b (Nat.ne_of_lt (Nat.lt_of_lt_of_le (Heap.lt_size e) (I.ok.cab x c hfn hc)))).trans e1⟩
    · obtain ⟨o', e1⟩ := I.base.there b o e hx
      exact ⟨o', (hs.2 b (Nat.ne_of_lt (Nat.lt_of_lt_of_le (Heap.lt_size e) (I.ok.cab x c hfn hc)))).trans e1⟩
    · by_cases hj : j = i
      · subst hj
        rw [hi] at e1; cases e1
        rw [List.getElem?_set_self hiσ] at e2
        cases e2
        exact ⟨u, r, .inr ⟨.inl hk, c, hc, hc'⟩⟩
      · rw [List.getElem?_set_ne (Ne.symm hj)] at e2
        obtain ⟨u', r', q⟩ := hl j y v' e1 e2 e3
        refine ⟨u', r', ?_⟩
        rcases q with q | ⟨k, c', e, z'⟩
        · exact .inl q
        · refine .inr ⟨k, c', e, z'.sameBut hs ?_⟩
          rintro rfl
          exact hj (nodup_ix hN e1 (I.ok.inj _ _ _ e hc ▸ hi))
    · by_cases hcc : c' = c
      · subst hcc; exact ⟨_, hc'⟩
      · obtain ⟨w2, z2⟩ := I.cell y c' e
        exact ⟨w2, z2.sameBut hs hcc⟩
    · obtain ⟨e, n, ne, nf, d⟩ := I.pin p hp
      refine ⟨(hs.2 p.1 ?_).trans e, n, ne, nf, d⟩
      intro q
      rw [q, hoc] at e
      have q' : oc = p.2 := Option.some.inj e
      exact d w' (by rw [← q']; exact hocd)
theorem store_ok {M : Model} {A : Around} {E : Value → Shared → Prop} {i : Nat} {x : Str} {v : V} {u : Value} {Q : Unit → Shared → Prop} (I : Inv X pins σ H s) (hN : X.N.Nodup) (hi : X.N[i]? = some x) (hx : Loc X.env.scope x) (r : RelV v u)
    (h : ∀ s', Inv X pins (σ.set i (some v)) H s' → Q () s') (hf : X.fn x = true ∨ X.env.scope.names.lookup x = some .local := by first | exact .inl rfl | exact .inr rfl | assumption) : wpAny M A (storeName X.env x u) Q E s :=
  store_ok2 I hN hi hx r (fun s' I' _ => h s' I') hf
theorem Inv.call' {s' : Shared} {ch : List Addr} (I : Inv X pins σ H s) (ho : s'.os = s.os) (u : Un (frs X.stack) ch H H' s.heap s'.heap) (hok : HOk X.prog X.w H' s'.heap) (hg : AllBare s'.gens)
    (hch : ∀ b ∈ ch, (b ∈ X.ex ∨ X.s₀.heap.objs.size ≤ b) ∧ b ≠ X.env.locals ∧ (∀ x c, X.env.cells.lookup x = some c → c ≠ b) ∧ ∀ p ∈ X.pn ++ pins, p.1 ≠ b) : Inv X pins σ H' s' := by
  obtain ⟨h', g', d', t', o'⟩ := s'
  have e : o' = s.os := ho
  subst e
  exact I.call (g' := g') (t' := t') (d' := d') u hok hg hch
end
noncomputable abbrev XK := Value → Option Addr → Hp → Prop
noncomputable abbrev St := List (Option V)
noncomputable abbrev VK := V → Hp → Prop
noncomputable abbrev TE := St → Hp → VK → Prop
noncomputable abbrev TT := St → Hp → (Bool → Hp → Prop) → Prop
noncomputable abbrev TA := St → Hp → (List V → Hp → Prop) → Prop
structure Ends where
  nx : St → Hp → Prop
  rt : VK
  bk : St → Hp → Prop := fun _ _ => False
  ct : St → Hp → Prop := fun _ _ => False
noncomputable abbrev TS := Ends → St → Hp → Prop
noncomputable def EP (X : Cx) (pins : List (Addr × Obj)) (σ : St) (Q : VK) (u : Value) (s' : Shared) : Prop := ∃ v H', Inv X pins σ H' s' ∧ RelV v u ∧ Q v H'
noncomputable def TP (X : Cx) (pins : List (Addr × Obj)) (σ : St) (Q : Bool → Hp → Prop) (b : Bool) (s' : Shared) : Prop := ∃ H', Inv X pins σ H' s' ∧ Q b H'
noncomputable def AP (X : Cx) (pins : List (Addr × Obj)) (σ : St) (Q : List V → Hp → Prop) (us : List Value) (s' : Shared) : Prop := ∃ vs H', Inv X pins σ H' s' ∧ Vals vs us ∧ Q vs H'
noncomputable def SP (X : Cx) (pins : List (Addr × Obj)) (D : Ends) (f : Flow) (s' : Shared) : Prop :=
  match f with
  | .next => ∃ σ' H', Inv X pins σ' H' s' ∧ D.nx σ' H'
  | .brk => ∃ σ' H', Inv X pins σ' H' s' ∧ D.bk σ' H'
  | .cont => ∃ σ' H', Inv X pins σ' H' s' ∧ D.ct σ' H'
  | .ret u => ∃ v σ' H', Inv X pins σ' H' s' ∧ RelV v u ∧ D.rt v H'
noncomputable def PE (X : Cx) (e : Expr) (t : TE) : Prop :=
  ∀ (pins : List (Addr × Obj)) (s : Shared) (σ : St) (H : Hp) (Q : VK), Inv X pins σ H s → t σ H Q → wpAny (model X.prog X.w) X.A (eval e X.env) (EP X pins σ Q) X.xe s
noncomputable def PT (X : Cx) (e : Expr) (t : TT) : Prop :=
  ∀ (pins : List (Addr × Obj)) (s : Shared) (σ : St) (H : Hp) (Q : Bool → Hp → Prop), Inv X pins σ H s → t σ H Q → wpAny (model X.prog X.w) X.A (isTrue e X.env (eval e X.env)) (TP X pins σ Q) X.xe s
noncomputable def PW (X : Cx) (e : Expr) (t : TT) : Prop :=
  ∀ (whole : Sem Value) (pins : List (Addr × Obj)) (s : Shared) (σ : St) (H : Hp) (Q : Bool → Hp → Prop), Inv X pins σ H s → t σ H Q → wpAny (model X.prog X.w) X.A (isTrue e X.env whole) (TP X pins σ Q) X.xe s
theorem PW.pt {X : Cx} {e : Expr} {t : TT} (h : PW X e t) : PT X e t := h _
noncomputable def PA (X : Cx) (es : List Expr) (t : TA) : Prop :=
  ∀ (pos : Pos) (pins : List (Addr × Obj)) (s : Shared) (σ : St) (H : Hp) (Q : List V → Hp → Prop), Inv X pins σ H s → t σ H Q → wpAny (model X.prog X.w) X.A (spliced (backTo pos (starEach es X.env))) (AP X pins σ Q) X.xe s
noncomputable def PS (X : Cx) (st : Stmt) (t : TS) : Prop :=
  ∀ (pins : List (Addr × Obj)) (s : Shared) (σ : St) (H : Hp) (D : Ends), Inv X pins σ H s → t D σ H → wpAny (model X.prog X.w) X.A (exec st X.env) (SP X pins D) X.xe s
noncomputable def PSs (X : Cx) (st : List Stmt) (t : TS) : Prop :=
  ∀ (pins : List (Addr × Obj)) (s : Shared) (σ : St) (H : Hp) (D : Ends), Inv X pins σ H s → t D σ H → wpAny (model X.prog X.w) X.A (execs st X.env) (SP X pins D) X.xe s
theorem thn {α : Type} {t : Sem α} {Q Q' : α → Shared → Prop} {M : Model} {A : Around} {E : Value → Shared → Prop} {s : Shared} (h : wpAny M A t Q E s) (hQ : ∀ a s, Q a s → Q' a s) : wpAny M A t Q' E s := wpAny_mono h hQ fun _ _ x => x
end L2
namespace L2
open PySem PySem.Spec PyProof.Rows
section
variable {X : Cx}
noncomputable def tVar (i : Nat) : TE := fun σ H Q => ∃ v, σ[i]? = some (some v) ∧ Q v H
noncomputable def tC (v : V) : TE := fun _ H Q => Q v H
theorem pe_var {i : Nat} {x : Str} {pos : Pos} (hN : X.N[i]? = some x) (hv : Vis X.env.scope x) (hd : (x == ("__debug__" : Str)) = false := by decide) (hcd : (x == ("__classdict__" : Str)) = false := by decide) : PE X (.Name x pos) (tVar i) := by
  intro pins s σ H Q I h
  obtain ⟨v, e, h⟩ := h
  obtain ⟨m, hn, hl⟩ := I.loc
  obtain ⟨u, r, l⟩ := hl i x v hN e hv
  have fin : EP X pins σ Q u s := ⟨v, H, I, r, h⟩
  rcases l with ⟨hk, hm⟩ | ⟨hk, c, hc, hcell⟩
  · exact wpAny_Name (wpAny_loadName_local I.ok.kind hk hn hm fin) hd
  · rcases hk with hk | hk
    · exact wpAny_Name (wpAny_loadName_cell I.ok.kind hk hc hcell fin) hd
    · exact wpAny_Name (wpAny_loadName_free I.ok.kind hk hc hcell fin hcd) hd
theorem pe_int {i j pos} : PE X (.Constant (.int i) j pos) (tC (.int i)) := fun _ _ _ H _ I h => wpAny_Constant_int ⟨.int i, H, I.tok _, ⟨_, rfl⟩, h⟩
theorem pe_bl {b j pos} : PE X (.Constant (.bool b) j pos) (tC (.bl b)) := fun _ _ _ H _ I h => Constant_bool ⟨.bl b, H, I, rfl, h⟩
theorem pe_non {j pos} : PE X (.Constant .none j pos) (tC .non) := fun _ _ _ H _ I h => Constant_none ⟨.non, H, I, rfl, h⟩
theorem pe_str {x j pos} : PE X (.Constant (.str x) j pos) (tC (.str x)) := fun _ _ _ H _ I h => Calls.Constant_str ⟨.str x, H, I.tok _, ⟨_, rfl⟩, h⟩
noncomputable def Gl (X : Cx) (x : Str) : Prop := X.env.kindOf x = some .globalImplicit
theorem ld_glob {E : Value → Shared → Prop} {pins : List (Addr × Obj)} {s : Shared} {σ : St} {H : Hp} {x : Str} {u : Value} {pos : Pos} {Q : Value → Shared → Prop} (I : Inv X pins σ H s) (hg : Gl X x) (hm : X.mg x = some u) (h : Q u s)
    (hd : (x == ("__debug__" : Str)) = false := by decide) : wpAny (model X.prog X.w) X.A (eval (.Name x pos) X.env) Q E s :=
  Calls.Name_function_global I.ok.kind hg (Calls.loadGlobal_global (by rw [I.ok.glob]; exact I.mod.glob.keeps I.bk) hm h) hd
theorem ld_blt {E : Value → Shared → Prop} {pins : List (Addr × Obj)} {s : Shared} {σ : St} {H : Hp} {x : Str} {u : Value} {pos : Pos} {Q : Value → Shared → Prop} (I : Inv X pins σ H s) (hg : Gl X x) (hm : X.mg x = none) (hv : bootBuiltins x = some u) (h : Q u s)
    (hn : x ≠ "__name__" := by decide) (hd : (x == ("__debug__" : Str)) = false := by decide) : wpAny (model X.prog X.w) X.A (eval (.Name x pos) X.env) Q E s := by
  obtain ⟨mb, h1, h2⟩ := I.mod.blt
  exact Calls.Name_function_global I.ok.kind hg (Calls.loadGlobal_builtin (by rw [I.ok.glob]; exact I.mod.glob.keeps I.bk) hm (by rw [I.ok.blt]; exact h1.keeps I.bk) ((h2 x hn).trans hv) h) hd
theorem pe_glob {x : Str} {v : V} {u : Value} {pos : Pos} (hg : Gl X x) (hm : X.mg x = some u) (r : RelV v u) (hd : (x == ("__debug__" : Str)) = false := by decide) : PE X (.Name x pos) (tC v) :=
  fun _ _ _ H _ I h => ld_glob I hg hm ⟨v, H, I, r, h⟩ hd
theorem pe_bltn {x : Str} {v : V} {u : Value} {pos : Pos} (hg : Gl X x) (hm : X.mg x = none) (hv : bootBuiltins x = some u) (r : RelV v u) (hn : x ≠ "__name__" := by decide) (hd : (x == ("__debug__" : Str)) = false := by decide) : PE X (.Name x pos) (tC v) :=
  fun _ _ _ H _ I h => ld_blt I hg hm hv ⟨v, H, I, r, h⟩ hn hd
variable {a b : Expr} {ta tb : TE} {pos : Pos}
noncomputable def tB (t : TE) : TT := fun σ H Q => t σ H fun x H1 => ∃ c, x = .bl c ∧ Q c H1
theorem pt_val {e : Expr} {t : TE} (h : PE X e t) (he : ∀ whole, isTrue e X.env whole = (do let v ← whole; standAt e.pos; holding [v] (truthy v)) := by intro _; rfl) : PT X e (tB t) := by
  intro pins s σ H Q I hw
  refine isTrue_plain (thn (h pins s σ H _ I hw) fun v s1 ⟨x, H1, I1, r1, q1⟩ => ?_) (he _)
  obtain ⟨d, rfl, q⟩ := q1
  cases r1
  exact wpAny_truthy_bool ⟨H1, I1, q⟩
variable {tA tB' : TT} {rest : List Expr}
noncomputable def tAnd (t u : TT) : TT := fun σ H Q => t σ H fun c H1 => if c = true then u σ H1 Q else Q false H1
noncomputable def tOr (t u : TT) : TT := fun σ H Q => t σ H fun c H1 => if c = true then Q true H1 else u σ H1 Q
noncomputable def tNot (t : TT) : TT := fun σ H Q => t σ H fun c H1 => Q (!c) H1
theorem pw_and1 (ha : PT X a tA) : PW X (.BoolOp .And [a] pos) tA := by
  intro wh pins s σ H Q I h
  refine isTrue_and (thn (ha pins s σ H Q I h) fun c s1 e => ?_)
  cases c with
  | true => exact isTrue_and_nil e
  | false => exact e
theorem pw_or1 (ha : PT X a tA) : PW X (.BoolOp .Or [a] pos) tA := by
  intro wh pins s σ H Q I h
  refine isTrue_or (thn (ha pins s σ H Q I h) fun c s1 e => ?_)
  cases c with
  | false => exact isTrue_or_nil e
  | true => exact e
theorem pw_and (ha : PT X a tA) (hb : PW X (.BoolOp .And (b :: rest) pos) tB') : PW X (.BoolOp .And (a :: b :: rest) pos) (tAnd tA tB') := by
  intro wh pins s σ H Q I h
  refine isTrue_and (thn (ha pins s σ H _ I h) fun c s1 zq1 => ?_)
  obtain ⟨H1, I1, q1⟩ := zq1
  refine ?_
  cases c with
  | true => exact hb wh pins s1 σ H1 Q I1 q1
  | false => exact ⟨H1, I1, q1⟩
theorem pw_or (ha : PT X a tA) (hb : PW X (.BoolOp .Or (b :: rest) pos) tB') : PW X (.BoolOp .Or (a :: b :: rest) pos) (tOr tA tB') := by
  intro wh pins s σ H Q I h
  refine isTrue_or (thn (ha pins s σ H _ I h) fun c s1 zq2 => ?_)
  obtain ⟨H1, I1, q1⟩ := zq2
  refine ?_
  cases c with
  | true => exact ⟨H1, I1, q1⟩
  | false => exact hb wh pins s1 σ H1 Q I1 q1
theorem pt_not (ha : PT X a tA) : PT X (.UnaryOp .Not a pos) (tNot tA) := by
  intro pins s σ H Q I h
  exact isTrue_not (ha pins s σ H (fun c H1 => Q (!c) H1) I h)
noncomputable def tAndV (ta tb : TE) : TE := fun σ H Q => ta σ H fun x H1 => ∃ c, x = .bl c ∧ if c = true then tb σ H1 Q else Q (.bl false) H1
noncomputable def tNotV (ta : TE) : TE := fun σ H Q => ta σ H fun x H1 => ∃ c, x = .bl c ∧ Q (.bl (!c)) H1
theorem pe_one {op} {t : TE} (h : PE X a t) : PE X (.BoolOp op [a] pos) t := fun pins s σ H Q I hw => BoolOp_one (h pins s σ H Q I hw)
theorem pe_and (ha : PE X a ta) (hb : PE X (.BoolOp .And (b :: rest) pos) tb) : PE X (.BoolOp .And (a :: b :: rest) pos) (tAndV ta tb) := by
  intro pins s σ H Q I h
  refine BoolOp_and (thn (ha pins s σ H _ I h) fun v s1 zq3 => ?_)
  obtain ⟨x, H1, I1, r1, q1⟩ := zq3
  refine ?_
  obtain ⟨c, rfl, q1⟩ := q1
  cases r1
  refine wpAny_truthy_bool ?_
  cases c with
  | true => exact hb pins s1 σ H1 Q I1 q1
  | false => exact ⟨.bl false, H1, I1, rfl, q1⟩
theorem pe_not (ha : PE X a ta) : PE X (.UnaryOp .Not a pos) (tNotV ta) := by
  intro pins s σ H Q I h
  refine UnaryOp_ (thn (ha pins s σ H _ I h) fun v s1 zq4 => ?_)
  obtain ⟨x, H1, I1, r1, q1⟩ := zq4
  refine ?_
  obtain ⟨c, rfl, q1⟩ := q1
  cases r1
  exact not_of (wpAny_truthy_bool ⟨.bl (!c), H1, I1, rfl, q1⟩)
noncomputable def tIf (t : TT) (ta tb : TE) : TE := fun σ H Q => t σ H fun c H1 => if c = true then ta σ H1 Q else tb σ H1 Q
theorem pe_ifExp {c : Expr} (hc : PT X c tA) (ha : PE X a ta) (hb : PE X b tb) : PE X (.IfExp c a b pos) (tIf tA ta tb) := by
  intro pins s σ H Q I h
  refine wpAny_IfExp (thn (hc pins s σ H _ I h) fun d s1 zq5 => ?_)
  obtain ⟨H1, I1, q1⟩ := zq5
  refine ?_
  cases d with
  | true => exact ha pins s1 σ H1 Q I1 q1
  | false => exact hb pins s1 σ H1 Q I1 q1
end
end L2
namespace L2
open PySem PySem.Spec PyProof.Rows
noncomputable def SqL (K : PySem.W.Frag) (H : Hp) (a : Addr) (xs : List V) : Prop :=
  Rd H a (.lst xs) ∨
    ∃ (o : Obj) (its : Array Value) (n : Nat), K.lookup a = some o ∧ o.cls = .type "list" ∧ o.dict = none ∧ o.data = .seq its n ∧ its.size ≤ sizeLine ∧ Vals xs its.toList
noncomputable def SqT (K : PySem.W.Frag) (H : Hp) (a : Addr) (xs : List V) : Prop :=
  Rd H a (.tup xs) ∨
    ∃ (o : Obj) (its : Array Value) (n : Nat), K.lookup a = some o ∧ o.cls = .type "tuple" ∧ o.data = .seq its n ∧ its.size ≤ sizeLine ∧ Vals xs its.toList
noncomputable def absV : Value → Option V
  | .none => some .non
  | .bool b => some (.bl b)
  | .int i _ => some (.int i)
  | .str x _ => some (.str x)
  | .bytes b _ => some (.byt b)
  | .float b _ => some (.flt b)
  | .ref a => some (.ref a)
  | .type n => some (.ty n)
  | _ => none
theorem RelV.abs {x : V} {u : Value} (r : RelV x u) : absV u = some x := by
  cases x with
  | non => cases r; rfl
  | bl _ => cases r; rfl
  | int _ => obtain ⟨t, rfl⟩ := r; rfl
  | str _ => obtain ⟨t, rfl⟩ := r; rfl
  | byt _ => obtain ⟨t, rfl⟩ := r; rfl
  | flt _ => obtain ⟨t, rfl⟩ := r; rfl
  | ref _ => cases r; rfl
  | ty _ => cases r; rfl
theorem RelV.inj {x y : V} {u : Value} (r : RelV x u) (q : RelV y u) : x = y := Option.some.inj (r.abs.symm.trans q.abs)
theorem Vals.inj {xs ys : List V} {us : List Value} (h : Vals xs us) (h' : Vals ys us) : xs = ys := by
  induction h generalizing ys with
  | nil => cases h'; rfl
  | cons r t ih => cases h' with | cons r' t' => rw [r.inj r', ih t']
section
variable {X : Cx} {pins : List (Addr × Obj)} {σ : St} {H : Hp} {s : Shared} {a : Addr} {xs ys : List V}
theorem SqL.of {K : PySem.W.Frag} (h : H a = some (.lst xs)) : SqL K H a xs := .inl (.inl h)
theorem SqT.of {K : PySem.W.Frag} (h : H a = some (.tup xs)) : SqT K H a xs := .inl (.inl h)
theorem Inv.list (I : Inv X pins σ H s) (h : SqL X.K H a xs) : ∃ its : List Value, Vals xs its ∧ PlainL s.heap a its.toArray ∧ xs.length ≤ sizeLine := by
  rcases h with h | ⟨o, its, n, hk, hc, hd, hs, hz, r⟩
  · obtain ⟨z, its, n, r, e⟩ := h.ok I.hok
    exact ⟨its, r, ⟨_, n, e, rfl, rfl, rfl⟩, z⟩
  · refine ⟨its.toList, r, ⟨o, n, I.kIn a o hk, hc, hd, by simpa using hs⟩, ?_⟩
    have e := r.length
    simp only [Array.length_toList] at e
    omega
theorem Inv.tuple (I : Inv X pins σ H s) (h : SqT X.K H a xs) : ∃ its : List Value, Vals xs its ∧ IsTup s.heap a its.toArray ∧ xs.length ≤ sizeLine := by
  rcases h with h | ⟨o, its, n, hk, hc, hs, hz, r⟩
  · obtain ⟨z, its, r, p⟩ := h.ok I.hok
    exact ⟨its, r, p, z⟩
  · refine ⟨its.toList, r, ⟨o, I.kIn a o hk, hc, n, by simpa using hs⟩, ?_⟩
    have e := r.length
    simp only [Array.length_toList] at e
    omega
theorem Inv.list_inj (I : Inv X pins σ H s) (h : SqL X.K H a xs) (h' : SqL X.K H a ys) : xs = ys := by
  obtain ⟨its, r, ⟨o, n, e, _, _, d⟩, _⟩ := I.list h
  obtain ⟨its', r', ⟨o', n', e', _, _, d'⟩, _⟩ := I.list h'
  rw [e] at e'; cases e'
  rw [d] at d'
  injection d' with d1 _
  have : its = its' := by simpa using congrArg Array.toList d1
  subst this
  exact r.inj r'
theorem Inv.tuple_inj (I : Inv X pins σ H s) (h : SqT X.K H a xs) (h' : SqT X.K H a ys) : xs = ys := by
  obtain ⟨its, r, ⟨o, e, _, n, d⟩, _⟩ := I.tuple h
  obtain ⟨its', r', ⟨o', e', _, n', d'⟩, _⟩ := I.tuple h'
  rw [e] at e'; cases e'
  rw [d] at d'
  injection d' with d1 _
  have : its = its' := by simpa using congrArg Array.toList d1
  subst this
  exact r.inj r'
end
noncomputable abbrev Cx.wish (X : Cx) (E : Value → Shared → Prop) : Cx := { X with xe := E }
noncomputable abbrev Cx.nox (X : Cx) : Cx := X.wish fun _ _ => False
theorem Cx.Ok.wish {X : Cx} (ok : X.Ok) (E : Value → Shared → Prop) : (X.wish E).Ok :=
  ⟨ok.mod, ok.kind, ok.glob, ok.blt, ok.above, ok.inj, ok.has, ok.cab, ok.hd, ok.frames, ok.stk, ok.exf, ok.bs, ok.bsz, ok.noex, ok.exfs, ok.funs, ok.frf⟩
theorem Cx.Ok.unwish {X : Cx} {E : Value → Shared → Prop} (ok : (X.wish E).Ok) : X.Ok :=
  ⟨ok.mod, ok.kind, ok.glob, ok.blt, ok.above, ok.inj, ok.has, ok.cab, ok.hd, ok.frames, ok.stk, ok.exf, ok.bs, ok.bsz, ok.noex, ok.exfs, ok.funs, ok.frf⟩
section
variable {X : Cx} {pins : List (Addr × Obj)} {σ : St} {H : Hp} {s : Shared} {E : Value → Shared → Prop}
theorem Inv.wish (I : Inv X pins σ H s) (E : Value → Shared → Prop) : Inv (X.wish E) pins σ H s := ⟨I.ok.wish E, I.os, I.bare, I.base, I.loc, I.cell, I.free, I.freeC, I.pin, I.hok, I.len⟩
theorem Inv.unwish (I : Inv (X.wish E) pins σ H s) : Inv X pins σ H s := ⟨I.ok.unwish, I.os, I.bare, I.base, I.loc, I.cell, I.free, I.freeC, I.pin, I.hok, I.len⟩
theorem SP.unwish {D : Ends} {f : Flow} {s' : Shared} (h : SP (X.wish E) pins D f s') : SP X pins D f s' := by
  cases f with
  | next => obtain ⟨σ', H', I, q⟩ := h; exact ⟨σ', H', I.unwish, q⟩
  | brk => obtain ⟨σ', H', I, q⟩ := h; exact ⟨σ', H', I.unwish, q⟩
  | cont => obtain ⟨σ', H', I, q⟩ := h; exact ⟨σ', H', I.unwish, q⟩
  | ret u => obtain ⟨v, σ', H', I, r, q⟩ := h; exact ⟨v, σ', H', I.unwish, r, q⟩
theorem PSs.nox {st : List Stmt} {t : TS} (h : PSs X.nox st t) : PSs X st t := fun pins s σ H D I hw =>
  wpAny_mono (h pins s σ H D (I.wish _) hw) (fun _ _ q => q.unwish) fun _ _ z => False.elim z
end
section
variable {X : Cx} {st : Stmt} {rest : List Stmt} {t u : TS} {e : Expr} {te : TE} {pos : Pos}
noncomputable def tNext : TS := fun D σ H => D.nx σ H
noncomputable def tSeq (t u : TS) : TS := fun D σ H => t { D with nx := u D } σ H
theorem pss_nil : PSs X [] tNext := fun _ _ σ H _ I h => wpAny_execs_nil ⟨σ, H, I, h⟩
theorem pss_cons (h1 : PS X st t) (h2 : PSs X rest u) : PSs X (st :: rest) (tSeq t u) := by
  intro pins s σ H D I h
  refine wpAny_execs_cons (thn (h1 pins s σ H { D with nx := u D } I h) fun f s1 q => ?_)
  cases f with
  | next =>
    obtain ⟨σ', H', I', q⟩ := q
    exact h2 pins s1 σ' H' D I' q
  | ret v => exact q
  | brk => exact q
  | cont => exact q
theorem pss_one (h1 : PS X st t) : PSs X [st] t := by
  intro pins s σ H D I h
  refine wpAny_execs_cons (thn (h1 pins s σ H D I h) fun f s1 q => ?_)
  cases f with
  | next => exact wpAny_execs_nil q
  | ret v => exact q
  | brk => exact q
  | cont => exact q
theorem Inv.quiet {pins : List (Addr × Obj)} {σ : St} {H : Hp} {s : Shared} (I : Inv X pins σ H s) : interactive X.env = false := by simp [interactive, I.ok.kind]
noncomputable def tDrop (te : TE) : TS := fun D σ H => te σ H fun _ H1 => D.nx σ H1
theorem ps_expr (he : PE X e te) (hs : swapsWith e none pos.line X.env = pure false := by rfl) : PS X (.Expr e pos) (tDrop te) := by
  intro pins s σ H D I h
  exact wpAny_Expr_any (thn (he pins s σ H _ I h) fun v s1 ⟨x, H1, I1, r1, q1⟩ => ⟨σ, H1, I1, q1⟩) I.quiet hs
noncomputable def tRet (te : TE) : TS := fun D σ H => te σ H D.rt
theorem ps_ret (he : PE X e te) : PS X (.Return (some e) pos) (tRet te) := by
  intro pins s σ H D I h
  refine wpAny_Return_some (thn (he pins s σ H _ I h) fun v s1 zq6 => ?_)
  obtain ⟨x, H1, I1, r1, q1⟩ := zq6
  exact ⟨x, σ, H1, I1, r1, q1⟩
noncomputable def tIfS (c : TT) (t u : TS) : TS := fun D σ H => c σ H fun b H1 => if b = true then t D σ H1 else u D σ H1
theorem ps_if {c : Expr} {a b : List Stmt} {tc : TT} (hc : PT X c tc) (ha : PSs X a t) (hb : PSs X b u) : PS X (.If c a b pos) (tIfS tc t u) := by
  intro pins s σ H D I h
  refine wpAny_If (thn (hc pins s σ H _ I h) fun d s1 zq7 => ?_)
  obtain ⟨H1, I1, q1⟩ := zq7
  refine ?_
  cases d with
  | true => exact ha pins s1 σ H1 D I1 q1
  | false => exact hb pins s1 σ H1 D I1 q1
noncomputable def tNever : TS := fun _ _ _ => False
theorem ps_never : PS X st tNever := fun _ _ _ _ _ _ h => h.elim
end
noncomputable abbrev TG := V → St → Hp → (St → Hp → Prop) → Prop
noncomputable abbrev TGs := List V → St → Hp → (St → Hp → Prop) → Prop
noncomputable def PG (X : Cx) (target : Expr) (t : TG) : Prop :=
  ∀ (pins : List (Addr × Obj)) (s : Shared) (σ : St) (H : Hp) (v : V) (u : Value) (Q : St → Hp → Prop), Inv X pins σ H s → RelV v u → t v σ H Q →
    wpAny (model X.prog X.w) X.A (assign target X.env u) (fun _ s' => ∃ σ' H', Inv X pins σ' H' s' ∧ Q σ' H') X.xe s
noncomputable def PGs (X : Cx) (ts : List Expr) (t : TGs) : Prop :=
  ∀ (pins : List (Addr × Obj)) (s : Shared) (σ : St) (H : Hp) (vs : List V) (us : List Value) (Q : St → Hp → Prop), Inv X pins σ H s → Vals vs us → t vs σ H Q →
    wpAny (model X.prog X.w) X.A (assignInOrder ((assignEach ts X.env).map (·.2)) us) (fun _ s' => ∃ σ' H', Inv X pins σ' H' s' ∧ Q σ' H') X.xe s
noncomputable abbrev TSet := V → V → V → Hp → (Hp → Prop) → Prop
noncomputable def PSet (X : Cx) (t : TSet) : Prop :=
  ∀ (pins : List (Addr × Obj)) (s : Shared) (σ : St) (H : Hp) (o i v : V) (ov iv u : Value) (Q : Hp → Prop), Inv X pins σ H s → RelV o ov → RelV i iv → RelV v u → t o i v H Q →
    wpAny (model X.prog X.w) X.A (setItem ov iv u) (fun _ s' => ∃ H', Inv X pins σ H' s' ∧ Q H') X.xe s
noncomputable abbrev TIp := V → V → Hp → VK → Prop
noncomputable def PIp (X : Cx) (op : Operator) (t : TIp) : Prop :=
  ∀ (pins : List (Addr × Obj)) (s : Shared) (σ : St) (H : Hp) (x y : V) (v u : Value) (Q : VK), Inv X pins σ H s → RelV x v → RelV y u → t x y H Q →
    wpAny (model X.prog X.w) X.A (inplaceOp op v u) (EP X pins σ Q) X.xe s
section
variable {X : Cx} {pos : Pos}
noncomputable def gName (i : Nat) : TG := fun v σ H Q => Q (σ.set i (some v)) H
theorem pg_name {i : Nat} {x : Str} (hN : X.N.Nodup) (hi : X.N[i]? = some x) (hx : Loc X.env.scope x) (hf : X.fn x = true ∨ X.env.scope.names.lookup x = some .local := by first | exact .inl rfl | exact .inr rfl | assumption) : PG X (.Name x pos) (gName i) := by
  intro pins s σ H v u Q I r h
  exact wpAny_assign_Name (store_ok I hN hi hx r (fun s' I' => ⟨_, H, I', h⟩) hf)
noncomputable def gNil : TGs := fun vs σ H Q => vs = [] ∧ Q σ H
noncomputable def gCons (t : TG) (u : TGs) : TGs := fun vs σ H Q => ∃ v r, vs = v :: r ∧ t v σ H fun σ' H' => u r σ' H' Q
theorem pgs_nil : PGs X [] gNil := by
  intro pins s σ H vs us Q I r h
  obtain ⟨e, h⟩ := h
  subst e
  cases r
  exact assignInOrder_nil ⟨σ, H, I, h⟩
theorem pgs_cons {e : Expr} {es : List Expr} {t : TG} {u : TGs} (h1 : PG X e t) (h2 : PGs X es u)
    (hs : (assignEach (e :: es) X.env).map (·.2) = assign e X.env :: (assignEach es X.env).map (·.2) := by rfl) : PGs X (e :: es) (gCons t u) := by
  intro pins s σ H vs us Q I r h
  obtain ⟨v, vr, e1, h⟩ := h
  subst e1
  cases r with
  | cons r rr =>
    rw [hs]
    refine assignInOrder_cons (thn (h1 pins s σ H _ _ _ I r h) fun _ s1 zq8 => ?_)
    obtain ⟨σ1, H1, I1, q1⟩ := zq8
    refine ?_
    exact h2 pins s1 σ1 H1 _ _ Q I1 rr q1
noncomputable def gTup (K : PySem.W.Frag) (n : Nat) (t : TGs) : TG := fun v σ H Q => ∃ a xs, v = .ref a ∧ SqT K H a xs ∧ xs.length = n ∧ t xs σ H Q
theorem pg_tup {es : List Expr} {k : Nat} {t : TGs} {n : Nat} (hc : X.calm = true) (h : PGs X es t)
    (hn : (assignEach es X.env).length = n := by rfl) (hst : (assignEach es X.env).findIdx? (·.1) = none := by rfl) : PG X (.Tuple es k pos) (gTup X.K n t) := by
  intro pins s σ H v u Q I r hw
  obtain ⟨a, xs, e1, hq, hl, hw⟩ := hw
  subst e1
  cases r
  obtain ⟨its, rv, ht, hz⟩ := I.tuple hq
  refine assign_Tuple_tuple (I.ok.hd hc) ht (by simp [hn, ← hl, rv.length]) hst fun h' hx => ?_
  have I1 : Inv X pins σ H { s with heap := h' } := I.kept (t' := s.toks) fun b o e => hx b o (Nat.ne_of_lt (Heap.lt_size e)) e
  exact h pins _ σ H xs _ Q I1 (by simpa using rv) hw
noncomputable def gSub (to ti : TE) (t : TSet) : TG := fun v σ H Q => to σ H fun o H1 => ti σ H1 fun i H2 => t o i v H2 fun H3 => Q σ H3
theorem pg_sub {o i : Expr} {to ti : TE} {t : TSet} (ho : PE X o to) (hi : PE X i ti) (hs : PSet X t)
    (ha : ∀ v, assign (.Subscript o i pos) X.env v = (do
      let ov ← holding [v] (eval o X.env)
      let iv ← holding [v, ov] (eval i X.env)
      standAt pos
      holding [v, ov, iv] (setItem ov iv v)
      release [v, ov, iv] []) := by intro _; rfl) : PG X (.Subscript o i pos) (gSub to ti t) := by
  intro pins s σ H v u Q I r h
  rw [ha]
  refine wpAny_bind (wpAny_holding (thn (ho pins s σ H _ I h) fun ov s1 zq9 => ?_))
  obtain ⟨x, H1, I1, r1, q1⟩ := zq9
  refine ?_
  refine wpAny_bind (wpAny_holding (thn (hi pins s1 σ H1 _ I1 q1) fun iv s2 zq10 => ?_))
  obtain ⟨y, H2, I2, r2, q2⟩ := zq10
  refine ?_
  refine wpAny_bind (wpAny_standAt (wpAny_bind (wpAny_holding (thn (hs pins s2 σ H2 x y v ov iv u _ I2 r1 r2 r q2) fun _ s3 zq11 => ?_))))
  obtain ⟨H3, I3, q3⟩ := zq11
  refine ?_
  exact wpAny_release ⟨σ, H3, I3, q3⟩
noncomputable def tAsg (te : TE) (g : TG) : TS := fun D σ H => te σ H fun x H1 => g x σ H1 D.nx
theorem ps_asg {tg e : Expr} {te : TE} {g : TG} (he : PE X e te) (hg : PG X tg g) (hs : swapsWithSole [tg] e pos.line X.env = pure false := by rfl) (hw : swappedStores [tg] e X.env = pure none := by rfl)
    (h1 : (assignEach [tg] X.env).map (·.2) = [assign tg X.env] := by rfl) : PS X (.Assign [tg] e pos) (tAsg te g) := by
  intro pins s σ H D I h
  refine wpAny_Assign_stores (thn (he pins s σ H _ I h) fun v s1 ⟨x, H1, I1, r1, q1⟩ => ?_) hs hw
  rw [h1]
  exact thn (hg pins s1 σ H1 x v _ I1 r1 q1) fun _ s2 q => q
theorem ps_set {i : Nat} {x : Str} {e : Expr} {te : TE} {pos' : Pos} (hN : X.N.Nodup) (hi : X.N[i]? = some x) (hx : Loc X.env.scope x) (he : PE X e te) (hs : swapsWith e (some (.Name x pos')) pos.line X.env = pure false := by rfl) (hf : X.fn x = true ∨ X.env.scope.names.lookup x = some .local := by first | exact .inl rfl | exact .inr rfl | assumption) :
    PS X (.Assign [.Name x pos'] e pos) (tAsg te (gName i)) := by
  intro pins s σ H D I h
  refine wpAny_Assign_Name (thn (he pins s σ H _ I h) fun v s1 ⟨y, H1, I1, r1, q1⟩ => ?_) hs
  exact store_ok I1 hN hi hx r1 (fun s2 I2 => ⟨_, H1, I2, q1⟩) hf
noncomputable def tAug (i : Nat) (te : TE) (ti : TIp) : TS := fun D σ H => ∃ x, σ[i]? = some (some x) ∧ te σ H fun y H1 => ti x y H1 fun z H2 => D.nx (σ.set i (some z)) H2
theorem ps_aug {i : Nat} {x : Str} {e : Expr} {te : TE} {op : Operator} {ti : TIp} {pos' : Pos} (hN : X.N.Nodup) (hi : X.N[i]? = some x) (hx : Loc X.env.scope x) (he : PE X e te) (ho : PIp X op ti) (hf : X.fn x = true ∨ X.env.scope.names.lookup x = some .local := by first | exact .inl rfl | exact .inr rfl | assumption) :
    PS X (.AugAssign (.Name x pos') op e pos) (tAug i te ti) := by
  intro pins s σ H D I h
  obtain ⟨v, e1, h⟩ := h
  obtain ⟨m, hn, hl⟩ := I.loc
  have vis : Vis X.env.scope x := by rcases hx with k | k; exact .inl k; exact .inr (.inl k)
  obtain ⟨u, r, l⟩ := hl i x v hi e1 vis
  refine wpAny_AugAssign_Name ?_
  have go : wpAny (model X.prog X.w) X.A (eval e X.env) (fun w s₂ => wpAny (model X.prog X.w) X.A (inplaceOp op u w) (fun r s₃ => wpAny (model X.prog X.w) X.A (storeName X.env x r) (fun _ => SP X pins D .next) X.xe s₃) X.xe s₂) X.xe s := by
    refine thn (he pins s σ H _ I h) fun w s1 zq1 => ?_
    obtain ⟨y, H1, I1, r1, q1⟩ := zq1
    refine ?_
    refine thn (ho pins s1 σ H1 v y u w _ I1 r r1 q1) fun z s2 zq2 => ?_
    obtain ⟨zv, H2, I2, r2, q2⟩ := zq2
    refine ?_
    exact store_ok I2 hN hi hx r2 (fun s3 I3 => ⟨_, H2, I3, q2⟩) hf
  rcases l with ⟨hk, hm⟩ | ⟨hk, c, hc, hcell⟩
  · exact wpAny_loadName_local I.ok.kind hk hn hm go
  · rcases hk with hk | hk
    · exact wpAny_loadName_cell I.ok.kind hk hc hcell go
    · rcases hx with k | k
      · have : X.env.scope.names.lookup x = some .free := hk
        rw [k] at this; cases this
      · have : X.env.scope.names.lookup x = some .free := hk
        rw [k] at this; cases this
end
section
variable {X : Cx} {pos : Pos}
noncomputable def tWhile (c : TT) (tb : TS) : TS := fun D σ H => ∃ W : Nat → St → Hp → Prop, (∃ m, W m σ H) ∧ ∀ m σ H, W m σ H →
  c σ H fun b H1 => if b = true then ∃ N : St → Hp → Prop, (∀ σ' H', N σ' H' → ∃ m', m' < m ∧ W m' σ' H') ∧ tb { D with nx := N, ct := N, bk := D.nx } σ H1 else D.nx σ H1
theorem ps_while {c : Expr} {body : List Stmt} {tc : TT} {tb : TS} (hp : PassesOwn (model X.prog X.w) X.A X.env X.xe) (hc : PT X c tc) (hb : PSs X body tb) : PS X (.While c body [] pos) (tWhile tc tb) := by
  intro pins s σ H D I h
  obtain ⟨W, ⟨m0, w0⟩, turn⟩ := h
  refine wpAny_While (codeAny_whileLoop (fun n s' => ∃ σ' H', Inv X pins σ' H' s' ∧ W n σ' H') ?_ m0 ⟨σ, H, I, w0⟩)
  rintro n s1 ⟨σ1, H1, I1, w1⟩
  refine wpAny_passesOwn hp (thn (hc pins s1 σ1 H1 _ I1 (turn n σ1 H1 w1)) fun b s2 zq12 => ?_)
  obtain ⟨H2, I2, q2⟩ := zq12
  refine ?_
  cases b with
  | true =>
    obtain ⟨N, hN, q2⟩ := q2
    rw [if_pos rfl]
    refine wpAny_passesOwn hp (thn (hb pins s2 σ1 H2 _ I2 q2) fun f s3 q3 => ?_)
    cases f with
    | next =>
      obtain ⟨σ3, H3, I3, n3⟩ := q3
      obtain ⟨m', hm, w3⟩ := hN σ3 H3 n3
      exact ⟨m', hm, σ3, H3, I3, w3⟩
    | cont =>
      obtain ⟨σ3, H3, I3, n3⟩ := q3
      obtain ⟨m', hm, w3⟩ := hN σ3 H3 n3
      exact ⟨m', hm, σ3, H3, I3, w3⟩
    | brk => exact q3
    | ret v => exact q3
  | false =>
    rw [if_neg Bool.false_ne_true]
    exact wpAny_execs_nil ⟨σ1, H2, I2, q2⟩
end
structure It where
  go : Nat → Hp → Prop
  yld : Nat → Hp → V → Hp → Prop
  stop : Nat → Hp → Prop
noncomputable def FpOk (X : Cx) (pins : List (Addr × Obj)) (H : Hp) (b : Addr) : Prop :=
  H b = none ∧ b ≠ X.env.locals ∧ b ∉ X.fs ∧ (b ∈ X.ex ∨ X.s₀.heap.objs.size ≤ b) ∧ (∀ x c, X.env.cells.lookup x = some c → c ≠ b) ∧ ∀ p ∈ X.pn ++ pins, p.1 ≠ b
theorem Inv.fpOk {X : Cx} {pins : List (Addr × Obj)} {σ : St} {H H' : Hp} {s : Shared} {b : Addr} (I : Inv X pins σ H s) (hb : s.heap.objs.size ≤ b) (hn : H' b = none) : FpOk X pins H' b := by
  refine ⟨hn, Nat.ne_of_gt (Nat.lt_of_lt_of_le I.lt hb), I.nofs hb, .inr (Nat.le_trans I.sz hb), fun x c e z => ?_, fun p hp z => ?_⟩
  · obtain ⟨v, q⟩ := I.cell x c e
    exact absurd (Nat.lt_of_lt_of_le q.lt (by rw [z]; exact hb)) (Nat.lt_irrefl _)
  · exact absurd (Nat.lt_of_lt_of_le (Heap.lt_size (I.pin p hp).1) (by rw [z]; exact hb)) (Nat.lt_irrefl _)
structure Turn (P : Program) (w : World) (K : PySem.W.Frag) (tg : Expr) (J : It) (fp : List Addr) (it : Addr) (tn : Nat → Heap → Prop) : Prop where
  mem : it ∈ fp
  obj : ∀ i h, tn i h → ∀ b ∈ fp, ∃ o, h.get? b = some o ∧ ∀ v, o.data ≠ .cell v
  keep : ∀ i h h', tn i h → (∀ b ∈ fp, ∀ o, h.get? b = some o → h'.get? b = some o) → tn i h'
  item : ∀ (X : Cx), X.prog = P → X.w = w → X.K = K → X.calm = true → ∀ (i : Nat) (pins : List (Addr × Obj)) (s : Shared) (σ : St) (H : Hp) (E : Value → Shared → Prop), Inv X pins σ H s → (∀ b ∈ fp, FpOk X pins H b) → tn i s.heap → J.go i H →
    wpAny (model P w) X.A (pyNext (.ref it)) (fun r s1 => ∃ u, r = some u ∧
      wpAny (model P w) X.A (letOwnedTupleGo tg (.ref it) u) (fun _ s2 => ∃ x H', Inv X pins σ H' s2 ∧ RelV x u ∧ J.yld i H x H' ∧ tn (i + 1) s2.heap ∧ ∀ b ∈ fp, H' b = none) E s1) E s
  done : ∀ (X : Cx), X.prog = P → X.w = w → X.K = K → X.calm = true → ∀ (i : Nat) (pins : List (Addr × Obj)) (s : Shared) (σ : St) (H : Hp) (E : Value → Shared → Prop), Inv X pins σ H s → (∀ b ∈ fp, FpOk X pins H b) → tn i s.heap → J.stop i H →
    wpAny (model P w) X.A (pyNext (.ref it)) (fun r s1 => r = none ∧ Inv X pins σ H s1) E s
  self : ∀ (A : Around) (i : Nat) (s : Shared) (Q : Value → Shared → Prop) (E : Value → Shared → Prop), tn i s.heap → Q (.ref it) s → wpAny (model P w) A (pyIter (.ref it)) Q E s
noncomputable abbrev TI := St → Hp → (It → Hp → Prop) → Prop
noncomputable def PIE (X : Cx) (pins : List (Addr × Obj)) (σ : St) (tg : Expr) (R : It → Hp → Prop) (itv : Value) (s2 : Shared) : Prop :=
  ∃ (it : Addr) (fp : List Addr) (tn : Nat → Heap → Prop) (J : It) (H' : Hp), itv = .ref it ∧ Inv X pins σ H' s2 ∧ Turn X.prog X.w X.K tg J fp it tn ∧ tn 0 s2.heap ∧ (∀ b ∈ fp, FpOk X pins H' b) ∧ R J H'
noncomputable def PI (X : Cx) (tg iter : Expr) (wi : TI) : Prop :=
  ∀ (pins : List (Addr × Obj)) (s : Shared) (σ : St) (H : Hp) (R : It → Hp → Prop), Inv X pins σ H s → wi σ H R →
    wpAny (model X.prog X.w) X.A (eval iter X.env) (fun v s1 => wpAny (model X.prog X.w) X.A (pyIter v) (PIE X pins σ tg R) X.xe s1) X.xe s
theorem go_of {M : Model} {A : Around} {E : Value → Shared → Prop} {s : Shared} {tg : Expr} {it : Addr} {u : Value} {o : Obj} {n : String} {vs : Array Value} {Q : Unit → Shared → Prop} (ho : s.heap.get? it = some o) (hc : o.cls = .type n) (hd : o.data = .fields vs)
    (hn : ["enumerate", "zip", "dict_itemiterator", "dict_reverseitemiterator", "odict_iterator", "itertools.zip_longest", "itertools.pairwise"].contains n = false) (hQ : Q () s) : wpAny M A (letOwnedTupleGo tg (.ref it) u) Q E s := by
  unfold letOwnedTupleGo
  cases tg <;> first
    | exact wpAny_pure hQ
    | (cases u <;> first
        | exact wpAny_pure hQ
        | (refine wpAny_bind (wpAny_load ho ?_)
           rw [hc, hd]
           show wpAny M A (if (["enumerate", "zip", "dict_itemiterator", "dict_reverseitemiterator", "odict_iterator", "itertools.zip_longest", "itertools.pairwise"].contains n && vs[0]? == some (rawInt _)) = true then _ else _) Q E s
           rw [if_neg (by intro h; rw [hn, Bool.false_and] at h; cases h)]
           exact wpAny_pure hQ))
noncomputable def Itl (K : PySem.W.Frag) (a : Addr) : It :=
  ⟨fun i H => ∃ xs x, SqL K H a xs ∧ xs[i]? = some x, fun i H x H' => H' = H ∧ ∀ xs, SqL K H a xs → xs[i]? = some x, fun i H => ∃ xs, SqL K H a xs ∧ xs.length ≤ i⟩
noncomputable def Itt (K : PySem.W.Frag) (a : Addr) : It :=
  ⟨fun i H => ∃ xs x, SqT K H a xs ∧ xs[i]? = some x, fun i H x H' => H' = H ∧ ∀ xs, SqT K H a xs → xs[i]? = some x, fun i H => ∃ xs, SqT K H a xs ∧ xs.length ≤ i⟩
noncomputable def Itr (lo : Int) (n : Nat) : It := ⟨fun i _ => i < n, fun i H x H' => H' = H ∧ x = .int (lo + i), fun i _ => n ≤ i⟩
theorem turn_list {P : Program} {w : World} {K : PySem.W.Frag} {tg : Expr} (a it : Addr) : Turn P w K tg (Itl K a) [it] it (fun i h => h.IsListIter it a i) where
  mem := by simp
  obj := fun i h st b hb => by
    have e : b = it := by simpa using hb
    subst e
    obtain ⟨o, e, c, d⟩ := st
    exact ⟨o, e, fun v z => by rw [d] at z; cases z⟩
  keep := fun i h h' st k => st.at fun o e => k it (by simp) o e
  item := by
    intro X hP hw hK hc i pins s σ H E I hf st hg
    subst hP hw hK
    obtain ⟨xs, x, hq, hx⟩ := hg
    obtain ⟨its, rv, p, hz⟩ := I.list hq
    obtain ⟨u, hu, ru⟩ := rv.get hx
    obtain ⟨f0, f1, f2, f3, f4, f5⟩ := hf it (by simp)
    refine wpAny_pyNext_list_item st p.isList (x := u) (by simpa using hu) fun h' st' sb => ?_
    have I1 : Inv X pins σ H { s with heap := h' } := I.turned (t' := s.toks) (fun b o hb e => (sb.2 b hb).trans e) f0 f1 f3 f4 f5
    obtain ⟨o, e, c, d⟩ := id st'
    exact ⟨u, rfl, go_of (s := { s with heap := h' }) e c d (by decide) ⟨x, H, I1, ru, ⟨rfl, fun ys hy => by rw [I.list_inj hy hq]; exact hx⟩, st', fun b hb => (hf b hb).1⟩⟩
  done := by
    intro X hP hw hK hc i pins s σ H E I hf st hg
    subst hP hw hK
    obtain ⟨xs, hq, hx⟩ := hg
    obtain ⟨its, rv, p, hz⟩ := I.list hq
    obtain ⟨f0, f1, f2, f3, f4, f5⟩ := hf it (by simp)
    have hl := rv.length
    exact wpAny_pyNext_list_end (I.ok.hd hc) st p.isList (by simp; omega) fun h' eb => ⟨rfl, I.turned (t' := s.toks) (fun b o hb e => eb b o hb e) f0 f1 f3 f4 f5⟩
  self := fun _ _ _ _ _ st h => wpAny_pyIter_listiter st h
theorem turn_tuple {P : Program} {w : World} {K : PySem.W.Frag} {tg : Expr} (a it : Addr) : Turn P w K tg (Itt K a) [it] it (fun i h => h.IsTupleIter it a i) where
  mem := by simp
  obj := fun i h st b hb => by
    have e : b = it := by simpa using hb
    subst e
    obtain ⟨o, e, c, d⟩ := st
    exact ⟨o, e, fun v z => by rw [d] at z; cases z⟩
  keep := fun i h h' st k => st.at fun o e => k it (by simp) o e
  item := by
    intro X hP hw hK hc i pins s σ H E I hf st hg
    subst hP hw hK
    obtain ⟨xs, x, hq, hx⟩ := hg
    obtain ⟨its, rv, p, hz⟩ := I.tuple hq
    obtain ⟨u, hu, ru⟩ := rv.get hx
    obtain ⟨f0, f1, f2, f3, f4, f5⟩ := hf it (by simp)
    refine wpAny_pyNext_tuple_item st (show s.heap.IsTuple a its.toArray from p) (x := u) (by simpa using hu) fun h' st' sb => ?_
    have I1 : Inv X pins σ H { s with heap := h' } := I.turned (t' := s.toks) (fun b o hb e => (sb.2 b hb).trans e) f0 f1 f3 f4 f5
    obtain ⟨o, e, c, d⟩ := id st'
    exact ⟨u, rfl, go_of (s := { s with heap := h' }) e c d (by decide) ⟨x, H, I1, ru, ⟨rfl, fun ys hy => by rw [I.tuple_inj hy hq]; exact hx⟩, st', fun b hb => (hf b hb).1⟩⟩
  done := by
    intro X hP hw hK hc i pins s σ H E I hf st hg
    subst hP hw hK
    obtain ⟨xs, hq, hx⟩ := hg
    obtain ⟨its, rv, p, hz⟩ := I.tuple hq
    obtain ⟨f0, f1, f2, f3, f4, f5⟩ := hf it (by simp)
    have hl := rv.length
    exact wpAny_pyNext_tuple_end (I.ok.hd hc) st (show s.heap.IsTuple a its.toArray from p) (by simp; omega) fun h' eb => ⟨rfl, I.turned (t' := s.toks) (fun b o hb e => eb b o hb e) f0 f1 f3 f4 f5⟩
  self := fun _ _ _ _ _ st h => wpAny_pyIter_tupleiter st h
theorem turn_range {P : Program} {w : World} {K : PySem.W.Frag} {tg : Expr} (it : Addr) (lo : Int) (n : Nat) : Turn P w K tg (Itr lo n) [it] it (fun i h => IsRangeIter h it (lo + (i : Nat) * 1) ((n : Int) - (i : Nat)) 1) where
  mem := by simp
  obj := fun i h st b hb => by
    have e : b = it := by simpa using hb
    subst e
    exact ⟨_, st, fun v z => by
      have z' : Data.fields _ = Data.cell v := z
      cases z'⟩
  keep := fun i h h' st k => k it (by simp) _ st
  item := by
    intro X hP hw hK hc i pins s σ H E I hf st hg
    subst hP hw hK
    obtain ⟨f0, f1, f2, f3, f4, f5⟩ := hf it (by simp)
    have W := Walks.range (prog := X.prog) (w := X.w) (I.ok.hd hc) it lo 1 n
    refine W.item i s _ _ hg st fun v h' tk hv st' kk => ?_
    obtain ⟨t, rfl⟩ := hv
    have I1 : Inv X pins σ H { s with heap := h', toks := tk } := I.turned (fun b o hb e => kk b o (by simpa using hb) e) f0 f1 f3 f4 f5
    refine ⟨_, rfl, go_of (s := { s with heap := h', toks := tk }) (n := "range_iterator") st' rfl rfl (by decide) ⟨.int (lo + i), H, I1, ⟨t, ?_⟩, ⟨rfl, rfl⟩, st', fun b hb => (hf b hb).1⟩⟩
    rw [Int.mul_one]
  done := by
    intro X hP hw hK hc i pins s σ H E I hf st hg
    subst hP hw hK
    obtain ⟨f0, f1, f2, f3, f4, f5⟩ := hf it (by simp)
    exact wpAny_pyNext_range_end (I.ok.hd hc) st (by have : n ≤ i := hg; omega) fun h' eb => ⟨rfl, I.turned (t' := s.toks) (fun b o hb e => eb b o hb e) f0 f1 f3 f4 f5⟩
  self := fun _ _ _ _ _ st h => wpAny_pyIter_rangeiter st h
end L2
namespace L2
open PySem PySem.Spec PyProof.Rows
section
variable {X : Cx} {tg : Expr}
theorem range_it {pins : List (Addr × Obj)} {σ : St} {H : Hp} {s : Shared} {R : It → Hp → Prop} {E : Value → Shared → Prop} {lo hi : Int} {t u v : Tok} {tk : Nat} (I : Inv X pins σ H s) (h1 : -(2 ^ 62) ≤ lo) (h2 : lo < 2 ^ 62) (h3 : -(2 ^ 62) ≤ hi) (h4 : hi < 2 ^ 62)
    (q : R (Itr lo (hi - lo).toNat) H) : wpAny (model X.prog X.w) X.A (pyIter (.ref s.heap.objs.size)) (PIE X pins σ tg R) E { s with heap := s.heap.push { cls := .type "range", data := .fields #[.int lo t, .int hi u, .int 1 v] }, toks := tk } := by
  refine wpAny_pyIter_range (IsRange.new ..) (small_one h1 h2 h3 h4) ?_
  have I1 : Inv X pins σ H { s with heap := s.heap.push { cls := .type "range", data := .fields #[.int lo t, .int hi u, .int 1 v] }, toks := tk } := I.kept fun b o e => Heap.get?_push_of_some _ e
  refine ⟨(s.heap.push { cls := .type "range", data := .fields #[.int lo t, .int hi u, .int 1 v] }).objs.size, [(s.heap.push { cls := .type "range", data := .fields #[.int lo t, .int hi u, .int 1 v] }).objs.size], _, _, H, rfl,
    I1.kept (t' := tk) fun b o e => Heap.get?_push_of_some _ e, turn_range _ lo (hi - lo).toNat, ?_, fun b hb => ?_, q⟩
  · have e1 : lo + ((0 : Nat) : Int) * 1 = lo := by simp
    have e2 : (((hi - lo).toNat : Nat) : Int) - ((0 : Nat) : Int) = Builtin.Range.rangeSize lo hi 1 := by rw [rangeSize_one]; split <;> omega
    show IsRangeIter _ _ (lo + ((0 : Nat) : Int) * 1) ((((hi - lo).toNat : Nat) : Int) - ((0 : Nat) : Int)) 1
    rw [e1, e2]
    exact Heap.get?_push_size _ rfl
  · have e : b = (s.heap.push { cls := .type "range", data := .fields #[.int lo t, .int hi u, .int 1 v] }).objs.size := by simpa using hb
    subst e
    exact I1.fpOk (Nat.le_refl _) (I1.hok.fresh (Nat.le_refl _))
noncomputable def iRng1 (ta : TA) : TI := fun σ H R => ta σ H fun vs H1 => ∃ j : Int, vs = [.int j] ∧ -(2 ^ 62) ≤ j ∧ j < 2 ^ 62 ∧ R (Itr 0 j.toNat) H1
theorem pi_range1 {a : Expr} {ta : TA} {p pos : Pos} (hg : Gl X "range") (hm : X.mg "range" = none) (ha : PA X [a] ta) (hs : starEach [a] X.env = [(false, eval a X.env)] := by rfl) : PI X tg (.Call (.Name "range" p) [a] [] pos) (iRng1 ta) := by
  intro pins s σ H R I h
  refine Call_ (ld_blt I hg hm boot_range (PyProof.Rows.callWith_type1 (thn (ha pos pins s σ H _ I h) fun us s1 ⟨vs, H1, I1, r1, q1⟩ => ?_) hs rfl))
  obtain ⟨j, e, q1, q2, q⟩ := q1
  subst e
  cases r1 with
  | cons r rr =>
    cases rr
    obtain ⟨t, rfl⟩ := r
    exact call_range_1 (range_it I1 (by omega) (by omega) q1 q2 (by simpa using q))
noncomputable def tFor (wi : TI) (g : TG) (tb : TS) : TS := fun D σ H => wi σ H fun J H1 => ∃ W : Nat → Nat → St → Hp → Prop, (∃ m, W 0 m σ H1) ∧ ∀ i m σ H, W i m σ H →
  (J.stop i H ∧ D.nx σ H) ∨ (J.go i H ∧ ∃ N : St → Hp → Prop, (∀ σ' H', N σ' H' → ∃ m', m' < m ∧ W (i + 1) m' σ' H') ∧ ∀ x H', J.yld i H x H' → g x σ H' fun σ2 H2 => tb { D with nx := N, ct := N, bk := D.nx } σ2 H2)
noncomputable def pinsAt (fp : List Addr) (h : Heap) : List (Addr × Obj) := fp.filterMap fun b => (h.get? b).map fun o => (b, o)
theorem mem_pinsAt {fp : List Addr} {h : Heap} {b : Addr} {o : Obj} (hb : b ∈ fp) (e : h.get? b = some o) : (b, o) ∈ pinsAt fp h := List.mem_filterMap.mpr ⟨b, hb, by rw [e]; rfl⟩
theorem of_pinsAt {fp : List Addr} {h : Heap} {p : Addr × Obj} (hp : p ∈ pinsAt fp h) : p.1 ∈ fp ∧ h.get? p.1 = some p.2 := by
  obtain ⟨b, hb, e⟩ := List.mem_filterMap.mp hp
  cases q : h.get? b with
  | none => rw [q] at e; cases e
  | some o =>
    rw [q] at e
    have e' : (b, o) = p := Option.some.inj e
    subst e'
    exact ⟨hb, q⟩
theorem Inv.pinned {pins : List (Addr × Obj)} {σ : St} {H : Hp} {s : Shared} {fp : List Addr} (I : Inv X pins σ H s) (hf : ∀ b ∈ fp, FpOk X pins H b) (ho : ∀ b ∈ fp, ∃ o, s.heap.get? b = some o ∧ ∀ v, o.data ≠ .cell v) : Inv X (pins ++ pinsAt fp s.heap) σ H s :=
  I.pins_of fun p hp => (List.mem_append.mp hp).elim (fun z => I.pin p (List.mem_append_right _ z)) fun z => by
    obtain ⟨hb, e⟩ := of_pinsAt z
    obtain ⟨f0, f1, f2, _⟩ := hf p.1 hb
    obtain ⟨o, e', d⟩ := ho p.1 hb
    rw [e] at e'; cases e'
    exact ⟨e, f0, f1, f2, d⟩
theorem Inv.unpinned {pins pl : List (Addr × Obj)} {σ : St} {H : Hp} {s : Shared} (I : Inv X (pins ++ pl) σ H s) : Inv X pins σ H s := I.pins_of fun p hp => I.pin p (List.mem_append_right _ (List.mem_append_left _ hp))
theorem ps_for {iter : Expr} {body : List Stmt} {wi : TI} {g : TG} {tb : TS} {pos : Pos} (hp : PassesOwn (model X.prog X.w) X.A X.env X.xe) (hc : X.calm = true) (hi : PI X tg iter wi) (hg : PG X tg g) (hb : PSs X body tb)
    (hs : ∀ x, foldedSetIterable iter X.env x = pure x := by intro _; rfl) : PS X (.For tg iter body [] pos) (tFor wi g tb) := by
  intro pins s σ H D I h
  refine wpAny_For (thn (hi pins s σ H _ I h) fun v s1 h1 => thn h1 fun itv s2 h2 => ?_) hs
  obtain ⟨it, fp, tn, J, H2, e, I2, T, st2, f2, W, ⟨m0, w0⟩, turn⟩ := h2
  subst e
  have stat : ∀ {H' : Hp}, (∀ b ∈ fp, H' b = none) → ∀ b ∈ fp, FpOk X pins H' b := fun hn b hb => ⟨hn b hb, (f2 b hb).2⟩
  refine codeAny_forLoop_any (fun n s' => ∃ i σ' H', Inv X pins σ' H' s' ∧ tn i s'.heap ∧ (∀ b ∈ fp, H' b = none) ∧ W i n σ' H') ?_ m0 ⟨0, σ, H2, I2, st2, fun b hb => (f2 b hb).1, w0⟩
  rintro n s3 ⟨i, σ3, H3, I3, st3, fr3, w3⟩
  rcases turn i n σ3 H3 w3 with ⟨stop, qn⟩ | ⟨go, N, hN, step⟩
  · refine wpAny_passesOwn hp (thn (T.done X rfl rfl rfl hc i pins s3 σ3 H3 X.xe I3 (stat fr3) st3 stop) fun r s4 zq13 => ?_)
    obtain ⟨hr, I4⟩ := zq13
    refine ?_
    subst hr
    exact wpAny_execs_nil ⟨σ3, H3, I4, qn⟩
  · refine wpAny_passesOwn hp (thn (T.item X rfl rfl rfl hc i pins s3 σ3 H3 X.xe I3 (stat fr3) st3 go) fun r s4 zq14 => ?_)
    obtain ⟨u, hr, h4⟩ := zq14
    refine ?_
    subst hr
    refine wpAny_passesOwn hp (thn h4 fun _ s5 zq15 => ?_)
    obtain ⟨x, H5, I5, r5, y5, st5, fr5⟩ := zq15
    refine ?_
    have I5' := I5.pinned (stat fr5) (T.obj _ _ st5)
    refine wpAny_passesOwn hp (thn (hg _ s5 σ3 H5 x u _ I5' r5 (step x H5 y5)) fun _ s6 zq16 => ?_)
    obtain ⟨σ6, H6, I6, q6⟩ := zq16
    refine ?_
    refine wpAny_passesOwn hp (thn (hb _ s6 σ6 H6 _ I6 q6) fun f s7 q7 => ?_)
    have again : ∀ {σ7 : St} {H7 : Hp}, Inv X (pins ++ pinsAt fp s5.heap) σ7 H7 s7 → N σ7 H7 → ∃ m, m < n ∧ ∃ i σ' H', Inv X pins σ' H' s7 ∧ tn i s7.heap ∧ (∀ b ∈ fp, H' b = none) ∧ W i m σ' H' := fun {σ7 H7} I7 n7 => by
      obtain ⟨m', hm, w7⟩ := hN σ7 H7 n7
      refine ⟨m', hm, i + 1, σ7, H7, I7.unpinned, T.keep _ _ _ st5 fun b hb o e => (I7.pin (b, o) (List.mem_append_right _ (List.mem_append_right _ (mem_pinsAt hb e)))).1, fun b hb => ?_, w7⟩
      obtain ⟨o, e, d⟩ := T.obj _ _ st5 b hb
      exact (I7.pin (b, o) (List.mem_append_right _ (List.mem_append_right _ (mem_pinsAt hb e)))).2.1
    cases f with
    | next => obtain ⟨σ7, H7, I7, n7⟩ := q7; exact again I7 n7
    | cont => obtain ⟨σ7, H7, I7, n7⟩ := q7; exact again I7 n7
    | brk => obtain ⟨σ7, H7, I7, q7⟩ := q7; exact ⟨σ7, H7, I7.unpinned, q7⟩
    | ret v => obtain ⟨x7, σ7, H7, I7, r7, q7⟩ := q7; exact ⟨x7, σ7, H7, I7.unpinned, r7, q7⟩
end
end L2
namespace L2
open PySem PySem.Spec PyProof.Rows
noncomputable abbrev R2 := V → V → Hp → VK → Prop
noncomputable def OpR (X : Cx) (f : Value → Value → Sem Value) (r : R2) : Prop :=
  ∀ (pins : List (Addr × Obj)) (s : Shared) (σ : St) (H : Hp) (x y : V) (v u : Value) (Q : VK), Inv X pins σ H s → RelV x v → RelV y u → r x y H Q →
    wpAny (model X.prog X.w) X.A (f v u) (EP X pins σ Q) X.xe s
noncomputable def UnR (X : Cx) (f : Value → Sem Value) (r : V → Hp → VK → Prop) : Prop :=
  ∀ (pins : List (Addr × Obj)) (s : Shared) (σ : St) (H : Hp) (x : V) (v : Value) (Q : VK), Inv X pins σ H s → RelV x v → r x H Q →
    wpAny (model X.prog X.w) X.A (f v) (EP X pins σ Q) X.xe s
noncomputable def CallR (X : Cx) (f : Value) (r : List V → Hp → VK → Prop) : Prop :=
  ∀ (pins : List (Addr × Obj)) (s : Shared) (σ : St) (H : Hp) (xs : List V) (us : List Value) (Q : VK), Inv X pins σ H s → Vals xs us → r xs H Q →
    wpAny (model X.prog X.w) X.A (call f us) (EP X pins σ Q) X.xe s
noncomputable def tOp (r : R2) (ta tb : TE) : TE := fun σ H Q => ta σ H fun x H1 => tb σ H1 fun y H2 => r x y H2 Q
noncomputable def tUn (r : V → Hp → VK → Prop) (ta : TE) : TE := fun σ H Q => ta σ H fun x H1 => r x H1 Q
noncomputable def rI (C : Int → Int → Prop) (g : Int → Int → V) : R2 := fun x y H Q => ∃ i j, x = .int i ∧ y = .int j ∧ C i j ∧ Q (g i j) H
noncomputable def rI0 (g : Int → Int → V) : R2 := fun x y H Q => ∃ i j, x = .int i ∧ y = .int j ∧ Q (g i j) H
noncomputable def rU (g : Int → V) : V → Hp → VK → Prop := fun x H Q => ∃ i, x = .int i ∧ Q (g i) H
section
variable {X : Cx} {a b c : Expr} {ta tb tc : TE} {pos : Pos}
theorem binT (ha : PE X a ta) (hb : PE X b tb) {pins : List (Addr × Obj)} {s : Shared} {σ : St} {H : Hp} {R : V → V → Hp → Prop} (I : Inv X pins σ H s)
    (h : ta σ H fun x H1 => tb σ H1 fun y H2 => R x y H2) {Q : Value → Shared → Prop} {f : Value → Value → Sem Value}
    (hf : ∀ v u s2 x y H2, Inv X pins σ H2 s2 → RelV x v → RelV y u → R x y H2 → wpAny (model X.prog X.w) X.A (f v u) Q X.xe s2) :
    wpAny (model X.prog X.w) X.A (eval a X.env) (fun v s₁ => wpAny (model X.prog X.w) X.A (eval b X.env) (fun u s₂ => wpAny (model X.prog X.w) X.A (f v u) Q X.xe s₂) X.xe s₁) X.xe s := by
  refine thn (ha pins s σ H _ I h) fun v s1 zq3 => ?_
  obtain ⟨x, H1, I1, r1, q1⟩ := zq3
  refine ?_
  refine thn (hb pins s1 σ H1 _ I1 q1) fun u s2 zq4 => ?_
  obtain ⟨y, H2, I2, r2, q2⟩ := zq4
  refine ?_
  exact hf v u s2 x y H2 I2 r1 r2 q2
theorem pe_op {op : Operator} {r : R2} (ho : OpR X (binaryOp op) r) (ha : PE X a ta) (hb : PE X b tb) : PE X (.BinOp a op b pos) (tOp r ta tb) := by
  intro pins s σ H Q I h
  exact wpAny_BinOp (binT ha hb I h fun v u s2 x y H2 I2 rx ry q => ho pins s2 σ H2 x y v u Q I2 rx ry q)
theorem pe_un {op : UnaryOp} {r : V → Hp → VK → Prop} (ho : UnR X (unaryOp op) r) (ha : PE X a ta) : PE X (.UnaryOp op a pos) (tUn r ta) := by
  intro pins s σ H Q I h
  refine UnaryOp_ (thn (ha pins s σ H _ I h) fun v s1 zq17 => ?_)
  obtain ⟨x, H1, I1, r1, q1⟩ := zq17
  exact ho pins s1 σ H1 x v Q I1 r1 q1
theorem opI {f : Value → Value → Sem Value} {C : Int → Int → Prop} {g : Int → Int → Int}
    (rule : ∀ (i j : Int) (t u : Tok) (s : Shared) (Q : Value → Shared → Prop) (E : Value → Shared → Prop), C i j → Q (.int (g i j) s.toks) { s with toks := s.toks + 1 } → wpAny (model X.prog X.w) X.A (f (.int i t) (.int j u)) Q E s) :
    OpR X f (rI C fun i j => .int (g i j)) := by
  intro pins s σ H x y v u Q I rx ry h
  obtain ⟨i, j, rfl, rfl, hc, q⟩ := h
  obtain ⟨t, rfl⟩ := rx
  obtain ⟨t', rfl⟩ := ry
  exact rule i j t t' s _ _ hc ⟨.int (g i j), H, I.tok _, ⟨_, rfl⟩, q⟩
theorem opI0 {f : Value → Value → Sem Value} {g : Int → Int → Int}
    (rule : ∀ (i j : Int) (t u : Tok) (s : Shared) (Q : Value → Shared → Prop) (E : Value → Shared → Prop), Q (.int (g i j) s.toks) { s with toks := s.toks + 1 } → wpAny (model X.prog X.w) X.A (f (.int i t) (.int j u)) Q E s) :
    OpR X f (rI0 fun i j => .int (g i j)) := by
  intro pins s σ H x y v u Q I rx ry h
  obtain ⟨i, j, rfl, rfl, q⟩ := h
  obtain ⟨t, rfl⟩ := rx
  obtain ⟨t', rfl⟩ := ry
  exact rule i j t t' s _ _ ⟨.int (g i j), H, I.tok _, ⟨_, rfl⟩, q⟩
theorem opB0 {f : Value → Value → Sem Value} {g : Int → Int → Bool}
    (rule : ∀ (i j : Int) (t u : Tok) (s : Shared) (Q : Value → Shared → Prop) (E : Value → Shared → Prop), Q (.bool (g i j)) s → wpAny (model X.prog X.w) X.A (f (.int i t) (.int j u)) Q E s) :
    OpR X f (rI0 fun i j => .bl (g i j)) := by
  intro pins s σ H x y v u Q I rx ry h
  obtain ⟨i, j, rfl, rfl, q⟩ := h
  obtain ⟨t, rfl⟩ := rx
  obtain ⟨t', rfl⟩ := ry
  exact rule i j t t' s _ _ ⟨.bl (g i j), H, I, rfl, q⟩
noncomputable def CPow (i j : Int) : Prop := 0 ≤ j ∧ j ≤ 1000000 ∧ i.natAbs < 2 ^ 64
noncomputable def CMul (i j : Int) : Prop := (-(2 ^ 64) < i ∧ i < 2 ^ 64) ∨ (-(2 ^ 64) < j ∧ j < 2 ^ 64)
theorem CMul.ok {i j : Int} (h : CMul i j) : IntMulOk i j := by
  rcases h with ⟨h1, h2⟩ | ⟨h1, h2⟩
  · exact .of_left (intBits_le_64 h1 h2)
  · exact .of_right (intBits_le_64 h1 h2)
theorem op_add : OpR X (binaryOp .Add) (rI0 fun i j => .int (i + j)) := opI0 fun _ _ _ _ _ _ _ q => add_int q
theorem op_sub : OpR X (binaryOp .Sub) (rI0 fun i j => .int (i - j)) := opI0 fun _ _ _ _ _ _ _ q => sub_int q
theorem op_mul : OpR X (binaryOp .Mult) (rI CMul fun i j => .int (i * j)) := opI fun _ _ _ _ _ _ _ hc q => mul_int q hc.ok
theorem op_mod : OpR X (binaryOp .Mod) (rI (fun _ j => 0 < j) fun i j => .int (i % j)) := opI fun i j _ _ _ _ _ hc q => by
  have h1 : (0 : Int) < j := hc
  exact mod_int' (by omega) (by rw [Int.fmod_eq_emod_of_nonneg i (by omega)]; exact q)
theorem op_pow : OpR X (binaryOp .Pow) (rI CPow fun i j => .int (i ^ j.toNat)) := opI fun _ _ _ _ _ _ _ hc q => pow_int_small hc.1 hc.2.1 hc.2.2 q
theorem iop_add : OpR X (inplaceOp .Add) (rI0 fun i j => .int (i + j)) := opI0 fun _ _ _ _ _ _ _ q => iadd_int q
theorem iop_sub : OpR X (inplaceOp .Sub) (rI0 fun i j => .int (i - j)) := opI0 fun _ _ _ _ _ _ _ q => isub_int q
theorem unI {f : Value → Sem Value} {g : Int → Int}
    (rule : ∀ (i : Int) (t : Tok) (s : Shared) (Q : Value → Shared → Prop) (E : Value → Shared → Prop), Q (.int (g i) s.toks) { s with toks := s.toks + 1 } → wpAny (model X.prog X.w) X.A (f (.int i t)) Q E s) :
    UnR X f (rU fun i => .int (g i)) := by
  intro pins s σ H x v Q I rx h
  obtain ⟨i, rfl, q⟩ := h
  obtain ⟨t, rfl⟩ := rx
  exact rule i t s _ _ ⟨.int (g i), H, I.tok _, ⟨_, rfl⟩, q⟩
theorem un_neg : UnR X (unaryOp .USub) (rU fun i => .int (-i)) := unI fun _ _ _ _ _ q => neg_int q
end
section
variable {X : Cx} {a b c : Expr} {ta tb tc : TE} {pos : Pos}
theorem fin_bl {pins : List (Addr × Obj)} {σ : St} {H : Hp} {s : Shared} {Q : VK} {k k' : Bool} (I : Inv X pins σ H s) (q : Q (.bl k) H) (e : k = k') : EP X pins σ Q (.bool k') s := by
  subst e
  exact ⟨.bl k, H, I, rfl, q⟩
theorem op_lt : OpR X (compareOp .Lt) (rI0 fun i j => .bl (decide (i < j))) := opB0 fun _ _ _ _ _ _ _ q => lt_int q
theorem op_le : OpR X (compareOp .LtE) (rI0 fun i j => .bl (decide (i ≤ j))) := opB0 fun _ _ _ _ _ _ _ q => le_int q
theorem op_gt : OpR X (compareOp .Gt) (rI0 fun i j => .bl (decide (j < i))) := opB0 fun _ _ _ _ _ _ _ q => gt_int q
theorem op_notN : OpR X (compareOp .IsNot) (fun x y H Q => y = .non ∧ Q (.bl (!decide (x = .non))) H) := by
  intro pins s σ H x y v u Q I rx ry h
  obtain ⟨rfl, q⟩ := h
  cases ry
  refine isnot_none_gen (fin_bl I q ?_)
  cases x <;> first
    | (cases rx; rfl)
    | (obtain ⟨t, rfl⟩ := rx; rfl)
theorem OpR.or {f : Value → Value → Sem Value} {r r' : R2} (h : OpR X f r) (h' : OpR X f r') : OpR X f (fun x y H Q => r x y H Q ∨ r' x y H Q) := by
  intro pins s σ H x y v u Q I rx ry q
  rcases q with q | q
  · exact h pins s σ H x y v u Q I rx ry q
  · exact h' pins s σ H x y v u Q I rx ry q
theorem nomark (b : Expr) {op : CmpOp} (h : op ≠ .In := by decide) (h2 : op ≠ .NotIn := by decide) : behindInMarks op b = false := by
  have e1 : (op == CmpOp.In) = false := by cases op <;> first | rfl | exact absurd rfl h
  have e2 : (op == CmpOp.NotIn) = false := by cases op <;> first | rfl | exact absurd rfl h2
  cases b <;> simp [behindInMarks, e1, e2]
theorem pe_cmpR {op : CmpOp} {r : R2} (ho : OpR X (compareOp op) r) (ha : PE X a ta) (hb : PE X b tb) (hm : behindInMarks op b = false) : PE X (.Compare a [op] [b] pos) (tOp r ta tb) := by
  intro pins s σ H Q I h
  exact wpAny_Compare1 (binT ha hb I h fun v u s2 x y H2 I2 rx ry q => ho pins s2 σ H2 x y v u Q I2 rx ry q) hm
noncomputable def tTest (t : TE) : TT := fun σ H Q => t σ H fun x H' => ∃ k, x = .bl k ∧ Q k H'
theorem pt_cmpR {op : CmpOp} {r : R2} (ho : OpR X (compareOp op) r) (ha : PE X a ta) (hb : PE X b tb) (hm : behindInMarks op b = false) : PT X (.Compare a [op] [b] pos) (tTest (tOp r ta tb)) := by
  intro pins s σ H Q I h
  refine wpAny_isTrue_Compare1 (thn (ha pins s σ H _ I h) fun v s1 ⟨x, H1, I1, r1, q1⟩ => thn (hb pins s1 σ H1 _ I1 q1) fun u s2 ⟨y, H2, I2, r2, q2⟩ =>
    thn (ho pins s2 σ H2 x y v u _ I2 r1 r2 q2) fun c s3 ⟨z, H3, I3, r3, k, e, q3⟩ => ?_) hm
  subst e
  cases r3
  exact wpAny_truthy_bool ⟨H3, I3, q3⟩
noncomputable def tChain (r r' : R2) (ta tb tc : TE) : TE := fun σ H Q => ta σ H fun x H1 => tb σ H1 fun y H2 => r x y H2 fun z H3 => ∃ k, z = .bl k ∧
  (if k = true then tc σ H3 fun w' H4 => r' y w' H4 Q else Q (.bl false) H3)
theorem pe_chain {op op' : CmpOp} {r r' : R2} (ho : OpR X (compareOp op) r) (ho' : OpR X (compareOp op') r') (ha : PE X a ta) (hb : PE X b tb) (hc : PE X c tc)
    (hm : lastMarks [op, op'] [b, c] = false := by with_unfolding_all rfl) : PE X (.Compare a [op, op'] [b, c] pos) (tChain r r' ta tb tc) := by
  intro pins s σ H Q I h
  refine Compare_chain (thn (ha pins s σ H _ I h) fun v s1 ⟨x, H1, I1, r1, q1⟩ => chain_link (thn (hb pins s1 σ H1 _ I1 q1) fun u s2 ⟨y, H2, I2, r2, q2⟩ =>
    thn (ho pins s2 σ H2 x y v u _ I2 r1 r2 q2) fun d s3 ⟨z, H3, I3, r3, k, e, q3⟩ => ?_)) hm
  subst e
  cases r3
  refine wpAny_truthy_bool ?_
  cases k with
  | false => exact ite_ff ⟨.bl false, H3, I3, rfl, q3⟩
  | true => exact ite_tt (chain_last (thn (hc pins s3 σ H3 _ I3 q3) fun w' s4 ⟨z', H4, I4, r4, q4⟩ => ho' pins s4 σ H4 y z' u w' Q I4 r2 r4 q4))
theorem line63 : (sizeLine : Nat) < 2 ^ 63 := by rw [sizeLine_eq]; decide
theorem vals1 {x : V} {us : List Value} (r : Vals [x] us) : ∃ u, us = [u] ∧ RelV x u := by
  cases r with
  | cons r1 r2 => cases r2; exact ⟨_, rfl, r1⟩
theorem call_int1 : CallR X (.type "int") (fun xs H Q => (∃ i, xs = [.int i] ∧ Q (.int i) H) ∨ ∃ k, xs = [.bl k] ∧ Q (.int (if k then 1 else 0)) H) := by
  intro pins s σ H xs us Q I r h
  rcases h with ⟨i, rfl, q⟩ | ⟨k, rfl, q⟩
  · obtain ⟨u, rfl, t, rfl⟩ := vals1 r
    exact call_int_int ⟨.int i, H, I, ⟨_, rfl⟩, q⟩
  · obtain ⟨u, rfl, r1⟩ := vals1 r
    cases r1
    exact call_int_bool ⟨.int (if k then 1 else 0), H, I.tok _, ⟨_, rfl⟩, q⟩
end
end L2
namespace L2
open PySem PySem.Spec PyProof.Rows
structure ObjM (h : Heap) (x dx C : Addr) (mA : Str → Option Value) : Prop where
  obj : h.get? x = some (PySem.W.instObj C dx)
  ns : h.Ns1 dx mA
  ne : dx ≠ x
section
variable {prog : Program} {w : World} {A : Around} {E : Value → Shared → Prop} {s : Shared} {K : PySem.W.Frag} {x dx C f : Addr} {mA : Str → Option Value} {name : Str} {v : Value}
end
section
variable {P : Program} {w : World} {H H' : Hp} {h h' : Heap} {a C dx : Addr} {fs fs' : List (Str × V)}
end
structure Cls (K : PySem.W.Frag) (C : Addr) : Prop where
  pg : PySem.W.plainGet K C Str.empty = true
  hd : PySem.W.hasDictIn K C = true
  po : PySem.W.plainOver K C = true
  sa : PySem.W.findIn K (.ref C) "__setattr__" = some (some (.builtin "object.__setattr__"))
structure Con (K : PySem.W.Frag) (C : Addr) (f : Str) (v : V) (u : Value) : Prop where
  at_ : PySem.W.findIn K (.ref C) f = some (some u)
  rel : RelV v u
  get : PySem.W.specialIn K u "__get__" = some none
  cp : PySem.W.copiedNames.contains f = false
structure Meth (K : PySem.W.Frag) (C : Addr) (m : Str) (f : Addr) : Prop where
  at_ : PySem.W.findIn K (.ref C) m = some (some (.ref f))
  fn : PySem.W.isFn K (.ref f) = true
  kp : PySem.W.keepIn K (.ref f) = true
section
variable {X : Cx} {pins : List (Addr × Obj)} {σ : St} {H : Hp} {s : Shared} {a C dx : Addr} {fs : List (Str × V)} {f : Str} {v : V} {A : Around} {E : Value → Shared → Prop}
end
section
variable {X : Cx} {o e value : Expr} {f : Str} {pos pos' tpos : Pos} {ta tv : TE}
end
section
variable {X : Cx} {pins : List (Addr × Obj)} {σ : St} {H : Hp} {s : Shared} {A : Around} {E : Value → Shared → Prop} {Q : Value → Shared → Prop} {c : Value} {b : Bool}
inductive TyOf (K : PySem.W.Frag) (H : Hp) : V → Value → Prop where
  | non : TyOf K H .non (.type "NoneType")
  | bl (x : Bool) : TyOf K H (.bl x) (.type "bool")
  | int (i : Int) : TyOf K H (.int i) (.type "int")
  | str (x : Str) : TyOf K H (.str x) (.type "str")
  | flt (x : UInt64) : TyOf K H (.flt x) (.type "float")
  | lst {a : Addr} {xs : List V} (e : H a = some (.lst xs)) : TyOf K H (.ref a) (.type "list")
  | frz {a : Addr} {o : Obj} {xs : List V} (e : H a = some (.frz o (.lst xs))) : TyOf K H (.ref a) (.type "list")
  | tup {a : Addr} {xs : List V} (e : H a = some (.tup xs)) : TyOf K H (.ref a) (.type "tuple")
  | dK {a : Addr} {kvs : List (Key × V)} (e : H a = some (.dK kvs)) : TyOf K H (.ref a) (.type "dict")
  | dT {a : Addr} {kvs : List (List Key × V)} (e : H a = some (.dT kvs)) : TyOf K H (.ref a) (.type "dict")
  | ins {a C dx : Addr} {fs : List (Str × V)} (e : H a = some (.ins C dx fs)) (cl : Cls K C) (ha : PySem.W.findIn K (.ref C) "__class__" = some (some (.builtin "object.__class__")))
      (hn : PySem.W.specialIn K (.builtin "object.__class__") "__get__" = some (some (.builtin "getset_descriptor.__get__"))) (htk : PySem.W.takesIn K (.builtin "object.__class__") = some true)
      (hm : PySem.W.mroIn K C (.type "object") = some true) : TyOf K H (.ref a) (.ref C)
end
end L2
namespace L2
open PySem PySem.Spec PyProof.Rows
structure Room (k : Nat) (A : Around) : Prop where
  hd : A.handled = none
  dp : A.depth + 3 * k + 5 < recursionLimit
  un : A.units + 16 * k + 200 < cLine
theorem Room.mono {j k : Nat} {A : Around} (r : Room k A) (h : j ≤ k) : Room j A := ⟨r.hd, by have := r.dp; omega, by have := r.un; omega⟩
theorem Room.deeper {k : Nat} {A : Around} (r : Room (k + 1) A) (env : Env) : Room k (A.deeper env) :=
  ⟨r.hd, by have := r.dp; show A.depth + 1 + 3 * k + 5 < _; omega, by have := r.un; show A.units + 3 + 16 * k + 200 < _; omega⟩
theorem Room.depth {k : Nat} {A : Around} (r : Room k A) : A.depth < recursionLimit := by have := r.dp; omega
noncomputable def tNil : TA := fun _ H Q => Q [] H
noncomputable def tCons (ta : TE) (tr : TA) : TA := fun σ H Q => ta σ H fun x H1 => tr σ H1 fun xs H2 => Q (x :: xs) H2
section
variable {X : Cx} {e : Expr} {es : List Expr} {te : TE} {t : TA} {pos : Pos}
theorem pa_nil : PA X [] tNil := fun _ _ _ _ H Q I h => Calls.spliced_nil ⟨[], H, I, .nil, h⟩
theorem pa_cons (ha : PE X e te) (hr : PA X es t) (hs : starEach (e :: es) X.env = (false, eval e X.env) :: starEach es X.env := by rfl) : PA X (e :: es) (tCons te t) := by
  intro pos pins s σ H Q I h
  rw [hs]
  show wpAny _ _ (spliced ((false, eval e X.env) :: backTo pos (starEach es X.env))) _ _ s
  refine Calls.spliced_cons (thn (ha pins s σ H _ I h) fun u s1 zq18 => ?_)
  obtain ⟨x, H1, I1, r1, q1⟩ := zq18
  refine ?_
  refine thn (hr pos pins s1 σ H1 _ I1 q1) fun us s2 zq5 => ?_
  obtain ⟨xs, H2, I2, r2, q2⟩ := zq5
  exact ⟨x :: xs, H2, I2, .cons r1 r2, q2⟩
noncomputable def tTup (t : TA) : TE := fun σ H Q => t σ H fun xs H1 => xs.length ≤ sizeLine ∧ ∀ p, H1 p = none → Q (.ref p) (upd H1 p (.tup xs))
noncomputable def tLst (t : TA) : TE := fun σ H Q => t σ H fun xs H1 => xs.length ≤ sizeLine ∧ ∀ p, H1 p = none → Q (.ref p) (upd H1 p (.lst xs))
theorem pe_tup {x1} (h : PA X es t) : PE X (.Tuple es x1 pos) (tTup t) := by
  intro pins s σ H Q I hq
  refine wpAny_Tuple_spliced (thn (h pos pins s σ H _ I hq) fun us s1 ⟨xs, H1, I1, r, z, q⟩ => ⟨by rw [← r.length]; exact z, ?_⟩)
  have hf : H1 s1.heap.objs.size = none := I1.hok.fresh (Nat.le_refl _)
  refine ⟨.ref s1.heap.objs.size, upd H1 s1.heap.objs.size (.tup xs), I1.laid (t' := s1.toks) (fun b u e => Heap.get?_push_of_some _ e) (Nat.le_refl _) ?_, rfl, q _ hf⟩
  exact ⟨z, us, r, ⟨_, Heap.get?_push_size _ rfl, rfl, _, rfl⟩⟩
theorem pe_lst (h : PA X es t) : PE X (.List es pos) (tLst t) := by
  intro pins s σ H Q I hq
  refine wpAny_List_spliced (thn (h pos pins s σ H _ I hq) fun us s1 ⟨xs, H1, I1, r, z, q⟩ => ⟨by rw [← r.length]; exact z, ?_⟩)
  have hf : H1 s1.heap.objs.size = none := I1.hok.fresh (Nat.le_refl _)
  refine ⟨.ref s1.heap.objs.size, upd H1 s1.heap.objs.size (.lst xs), I1.laid (t' := s1.toks) (fun b u e => Heap.get?_push_of_some _ e) (Nat.le_refl _) ?_, rfl, q _ hf⟩
  exact ⟨z, us, 0, r, Heap.get?_push_size _ rfl⟩
end
noncomputable abbrev Sp := List V → Hp → VK → XK → Prop
noncomputable abbrev CXT := List Env → Hp → Shared → XK → Value → Shared → Prop
structure Env0 (P : Program) (w : World) (K : PySem.W.Frag) (mg : Str → Option Value) (base : Heap) (A : Around) (outer : List Env) (s : Shared) (H : Hp) : Prop where
  frames : A.frames = some outer
  mod : Mod K mg base
  bs : ∀ b o, base.get? b = some o → s.heap.get? b = some o ∧ H b = none
  bsz : base.objs.size ≤ s.heap.objs.size
  funs : s.heap.FunFrames base outer
  frf : ∀ b ∈ frs outer, H b = none
  hok : HOk P w H s.heap
  bare : AllBare s.gens
noncomputable def CE (outer : List Env) (P : Program) (w : World) (H : Hp) (s : Shared) (Q : VK) (u : Value) (s' : Shared) : Prop :=
  ∃ v H', s'.os = s.os ∧ AllBare s'.gens ∧ Un (frs outer) [] H H' s.heap s'.heap ∧ HOk P w H' s'.heap ∧ RelV v u ∧ Q v H'
noncomputable def CR (CX : CXT) (outer : List Env) (P : Program) (w : World) (H : Hp) (s : Shared) (Q : VK) (E : XK) (r : Result) (s' : Shared) : Prop :=
  match r with
  | .ok (.ret u) => CE outer P w H s Q u s'
  | .ok _ => False
  | .error e => CX outer H s E e s'
structure FnOk (P : Program) (w : World) (K : PySem.W.Frag) (mg : Str → Option Value) (base : Heap) (CX : CXT) (k : Nat) (f : Addr) (fd : FuncData) (ps : List Str) (sp : Sp) : Prop where
  len : ∀ vs H Q E, sp vs H Q E → vs.length = ps.length
  run : ∀ (A : Around) (outer : List Env) (s : Shared) (H : Hp) (args : Args) (us : List Value) (vs : List V) (Q : VK) (E : XK), Room k A → Env0 P w K mg base A outer s H → BindsTo s fd args (ps.zip us) → Vals vs us → sp vs H Q E →
    codeAny (model P w) A (.call (.ref f) args) (CR CX outer P w H s Q E) s
section
variable {X : Cx} {pins : List (Addr × Obj)} {σ : St} {H : Hp} {s s' : Shared}
theorem Inv.env0 (I : Inv X pins σ H s) : Env0 X.prog X.w X.K X.mg X.base X.A X.stack s H :=
  ⟨I.ok.frames, I.ok.mod, I.bs, Nat.le_trans I.ok.bsz I.sz, I.stack, I.stkFree, I.hok, I.bare⟩
theorem Inv.after {Q : VK} {u : Value} (I : Inv X pins σ H s) (h : CE X.stack X.prog X.w H s Q u s') : EP X pins σ Q u s' := by
  obtain ⟨v, H', os, bare, un, hok, r, q⟩ := h
  obtain ⟨hh, g, d, t, os'⟩ := s'
  obtain rfl : os' = s.os := os
  exact ⟨v, H', I.call (h' := hh) (g' := g) (d' := d) (t' := t) (ch := []) un hok bare (fun b z => absurd z (by simp)), r, q⟩
end
noncomputable def tCall (sp : Sp) (dvs : List V) (E : XK) (t : TA) : TE := fun σ H Q => t σ H fun vs H1 => sp (vs ++ dvs) H1 Q E
noncomputable def Binds (K : PySem.W.Frag) (fd : FuncData) (ps : List Str) (ds : List Value) : Prop :=
  ∀ (s : Shared) (us : List Value), K.In s.heap → (us ++ ds).length = ps.length → BindsTo s fd ⟨us, []⟩ (ps.zip (us ++ ds))
theorem Binds.all {K : PySem.W.Frag} {fd : FuncData} {ps : List Str} (h : ∀ us : List Value, us.length = ps.length → bindArgs fd ⟨us, []⟩ = pure (ps.zip us)) : Binds K fd ps [] := fun s us _ hl => by
  rw [List.append_nil] at hl ⊢
  exact .of_eq (h us hl)
noncomputable def Passes (CX : CXT) (X : Cx) (E : XK) : Prop := ∀ (pins : List (Addr × Obj)) (σ : St) (H : Hp) (s : Shared) (e : Value) (s' : Shared), Inv X pins σ H s → CX X.stack H s E e s' → X.xe e s'
section
variable {X : Cx} {CX : CXT} {k : Nat} {f C : Addr} {fd : FuncData} {ps : List Str} {sp : Sp} {dvs : List V} {ds : List Value} {E : XK} {x m : Str} {p pos apos : Pos} {e o : Expr} {es : List Expr} {ta : TE} {t : TA}
theorem run_fn {pins : List (Addr × Obj)} {σ : St} {H : Hp} {s : Shared} {Q : VK} {us : List Value} {vs : List V} (F : FnOk X.prog X.w X.K X.mg X.base CX k f fd ps sp) (hr : Room k X.A) (hb : Binds X.K fd ps ds) (hd : Vals dvs ds) (hx : Passes CX X E)
    (I : Inv X pins σ H s) (r : Vals vs us) (h : sp (vs ++ dvs) H Q E) : wpAny (model X.prog X.w) X.A (call (.ref f) us) (EP X pins σ Q) X.xe s := by
  have r2 : Vals (vs ++ dvs) (us ++ ds) := r.append hd
  have hl : (us ++ ds).length = ps.length := by rw [← r2.length]; exact F.len _ _ _ _ h
  refine wpAny_call (codeAny_mono (F.run X.A X.stack s H ⟨us, []⟩ (us ++ ds) (vs ++ dvs) Q E hr I.env0 (hb s us I.kIn hl) r2 h) fun r s' hq => ?_)
  cases r with
  | error e => exact hx pins σ H s e s' I hq
  | ok fl =>
    cases fl with
    | ret u => exact I.after hq
    | next => exact False.elim hq
    | brk => exact False.elim hq
    | cont => exact False.elim hq
theorem pe_call (F : FnOk X.prog X.w X.K X.mg X.base CX k f fd ps sp) (hr : Room k X.A) (hg : Gl X x) (hm : X.mg x = some (.ref f)) (hk : PySem.W.keepIn X.K (.ref f) = true) (hb : Binds X.K fd ps ds) (hd : Vals dvs ds) (hx : Passes CX X E)
    (ha : PA X (e :: es) t) (hdb : (x == ("__debug__" : Str)) = false := by decide) (he : starEach (e :: es) X.env = (false, eval e X.env) :: starEach es X.env := by rfl) (hpl : (backTo pos (starEach es X.env)).any (·.1) = false := by rfl) :
    PE X (.Call (.Name x p) (e :: es) [] pos) (tCall sp dvs E t) := by
  intro pins s σ H Q I h
  refine wpAny_Call_Name_kw (ld_glob I hg hm ?_ hdb)
  refine PySem.W.callWith_K (h₀ := X.base) I.ok.mod.kin hk (thn (ha pos pins s σ H _ I h) fun us s1 ⟨vs, H1, I1, r, q⟩ => ⟨I1.kIn, ?_⟩) he hpl
  exact run_fn F hr hb hd hx I1 r q
structure Mk (K : PySem.W.Frag) (C f : Addr) : Prop where
  makes : PySem.W.makesIn K C = true
  init : PySem.W.findIn K (.ref C) "__init__" = some (some (.ref f))
  fn : PySem.W.isFn K (.ref f) = true
  kp : PySem.W.keepIn K (.ref C) = true
end
section
variable {X : Cx} {CX : CXT} {k : Nat} {f C : Addr} {fd : FuncData} {ps ks : List Str} {sp : Sp} {E : XK} {x m : Str} {p pos apos kpos : Pos} {e o : Expr} {es : List Expr} {kws : List Keyword} {te ta : TE} {t tk : TA} {nm : Option Str}
structure KBinds (K : PySem.W.Frag) (fd : FuncData) (ps ks : List Str) (g : List Value → List Value → List Value) (gV : List V → List V → List V) : Prop where
  to : ∀ (s : Shared) (us ws : List Value), K.In s.heap → (g us ws).length = ps.length → BindsTo s fd ⟨us, ks.zip ws⟩ (ps.zip (g us ws))
  rel : ∀ {vs : List V} {us : List Value} {zs : List V} {ws : List Value}, Vals vs us → Vals zs ws → Vals (gV vs zs) (g us ws)
variable {g : List Value → List Value → List Value} {gV : List V → List V → List V}
end
structure FnScope (N P : List Str) (sc : Scope) : Prop where
  kind : sc.kind = .function
  co : sc.isCoroutine = false
  gen : sc.isGenerator = false
  nd : N.Nodup
  pre : N.take P.length = P
  par : ∀ x ∈ P, sc.names.lookup x = some .local ∨ sc.names.lookup x = some .cell
  nofree : ∀ y ∈ sc.names, y.2 ≠ .free
theorem bindL_out {kindOf : Str → Option NameKind} {x : Str} : ∀ {binds : List (Str × Value)} {m : Str → Option Value}, (∀ v, (x, v) ∉ binds) → bindL kindOf binds m x = m x
  | [], _, _ => rfl
  | (n, v) :: r, m, h => by
    unfold bindL
    rw [bindL_out fun w hw => h w (List.mem_cons_of_mem _ hw)]
    split
    · have : x ≠ n := by rintro rfl; exact h v List.mem_cons_self
      simp [this]
    · rfl
theorem bindC_out {kindOf : Str → Option NameKind} {x : Str} : ∀ {binds : List (Str × Value)} {m : Str → Option Value}, (∀ v, (x, v) ∉ binds) → bindC kindOf binds m x = m x
  | [], _, _ => rfl
  | (n, v) :: r, m, h => by
    unfold bindC
    rw [bindC_out fun w hw => h w (List.mem_cons_of_mem _ hw)]
    split
    · rfl
    · have : x ≠ n := by rintro rfl; exact h v List.mem_cons_self
      simp [this]
theorem bindL_get {kindOf : Str → Option NameKind} {x : Str} {v : Value} : ∀ {P : List Str} {vs : List Value} {i : Nat} {m : Str → Option Value}, P.Nodup → P[i]? = some x → vs[i]? = some v → kindOf x = some .local →
    bindL kindOf (P.zip vs) m x = some v
  | [], _, _, _, _, h, _, _ => by simp at h
  | _ :: _, [], _, _, _, _, h, _ => by simp at h
  | p :: P, w :: vs, 0, m, nd, h1, h2, hk => by
    simp at h1 h2; subst h1; subst h2
    show bindL kindOf ((p, w) :: P.zip vs) m p = _
    unfold bindL
    rw [bindL_out fun v hv => (List.nodup_cons.mp nd).1 (List.of_mem_zip hv).1, if_pos hk]
    simp
  | p :: P, w :: vs, i + 1, m, nd, h1, h2, hk => by
    show bindL kindOf ((p, w) :: P.zip vs) m x = _
    unfold bindL
    exact bindL_get (i := i) (List.nodup_cons.mp nd).2 (by simpa using h1) (by simpa using h2) hk
theorem bindC_get {kindOf : Str → Option NameKind} {x : Str} {v : Value} : ∀ {P : List Str} {vs : List Value} {i : Nat} {m : Str → Option Value}, P.Nodup → P[i]? = some x → vs[i]? = some v → kindOf x ≠ some .local →
    bindC kindOf (P.zip vs) m x = some v
  | [], _, _, _, _, h, _, _ => by simp at h
  | _ :: _, [], _, _, _, _, h, _ => by simp at h
  | p :: P, w :: vs, 0, m, nd, h1, h2, hk => by
    simp at h1 h2; subst h1; subst h2
    show bindC kindOf ((p, w) :: P.zip vs) m p = _
    unfold bindC
    rw [bindC_out fun v hv => (List.nodup_cons.mp nd).1 (List.of_mem_zip hv).1, if_neg hk]
    simp
  | p :: P, w :: vs, i + 1, m, nd, h1, h2, hk => by
    show bindC kindOf ((p, w) :: P.zip vs) m x = _
    unfold bindC
    exact bindC_get (i := i) (List.nodup_cons.mp nd).2 (by simpa using h1) (by simpa using h2) hk
noncomputable def start (N : List Str) (vs : List V) : St := vs.map some ++ List.replicate (N.length - vs.length) none
noncomputable def cxOf (CX : CXT) (P : Program) (w : World) (K : PySem.W.Frag) (mg : Str → Option Value) (base : Heap) (N : List Str) (qual : Str) (scope : Scope) (f : Addr) (cd : Value) (A : Around) (outer : List Env) (s : Shared) (H : Hp) (E : XK) : Cx where
  prog := P
  w := w
  K := K
  mg := mg
  base := base
  A := A.deeper (envOfC qual scope s.heap.objs.size f cd)
  N := N
  s₀ := s
  H₀ := H
  env := envOfC qual scope s.heap.objs.size f cd
  outer := outer
  stack := envOfC qual scope s.heap.objs.size f cd :: outer
  ex := []
  calm := true
  fn := fun _ => true
  pn := []
  xe := fun e s' => wpAny (model P w) (A.deeper (envOfC qual scope s.heap.objs.size f cd)) (leaving (envOfC qual scope s.heap.objs.size f cd) e) (fun _ s'' => CX outer H s E e s'') (fun e' s'' => CX outer H s E e' s'') s'
theorem cell_has {sc : Scope} {n : Nat} {x : Str} (h : sc.names.lookup x = some .cell) : ∃ c, (cellsFrom n sc.names []).lookup x = some c := by
  have q := PySem.W.cellsFrom_some sc.names n [] (.inl h)
  exact Option.isSome_iff_exists.mp q
theorem inv_start {CX : CXT} {P : Program} {w : World} {K : PySem.W.Frag} {mg : Str → Option Value} {base : Heap} {N ps : List Str} {qual : Str} {scope : Scope} {f : Addr} {cd : Value} {A : Around} {outer : List Env} {s s1 : Shared} {H : Hp} {E : XK} {us : List Value} {vs : List V}
    (S : FnScope N ps scope) (hd : A.handled = none) (e0 : Env0 P w K mg base A outer s H) (hl : vs.length = ps.length) (r : Vals vs us)
    (x : InCallC s s.heap.objs.size (bindL (envOfC qual scope s.heap.objs.size f cd).kindOf (ps.zip us) fun _ => none) (cellsFrom (s.heap.objs.size + 1) scope.names []) (bindC (envOfC qual scope s.heap.objs.size f cd).kindOf (ps.zip us) fun _ => none) s1) :
    Inv (cxOf CX P w K mg base N qual scope f cd A outer s H E) [] (start N vs) H s1 := by
  have hpl : ps.length ≤ N.length := by have := congrArg List.length S.pre; rw [List.length_take] at this; omega
  obtain ⟨h1, tk, rfl, hk⟩ := x.done
  have noA : ∀ b : Addr, b ∉ (cxOf CX P w K mg base N qual scope f cd A outer s H E).ex := fun b z => absurd (show b ∈ ([] : List Addr) from z) (by simp)
  refine ⟨⟨e0.mod, S.kind, rfl, rfl, Nat.le_refl _, fun y z c h1 h2 => ?_, fun y hy => ?_, fun y c _ h => ?_, fun _ => hd, Around.frames_deeper e0.frames, .inr ⟨rfl, rfl⟩, fun b z => absurd z (noA b), e0.bs, e0.bsz, fun b _ _ => noA b, fun b z => absurd z (noA b), e0.funs, e0.frf⟩,
    rfl, e0.bare, Un.kept hk, ⟨_, x.toInCall.ns, fun i y v h1 h2 h3 => ?_⟩, fun y c h => ⟨_, x.cell y c h⟩, e0.hok.fresh (Nat.le_refl _), fun y c h => ?_, fun p hp => absurd (show p ∈ ([] : List (Addr × Obj)) from hp) (by simp), e0.hok.kept hk, ?_⟩
  · exact name_of_addr x.apart (PySem.mem_of_lookup h1) (PySem.mem_of_lookup h2)
  · have hy : scope.names.lookup y = some .cell ∨ scope.names.lookup y = some .free := hy
    rcases hy with hy | hy
    · exact cell_has hy
    · exact absurd rfl (S.nofree _ (PySem.mem_of_lookup hy))
  · exact Nat.le_of_lt (x.above y c (PySem.mem_of_lookup h))
  · have hi : i < vs.length := by
      unfold start at h2
      by_cases hi : i < vs.length
      · exact hi
      · rw [List.getElem?_append_right (by simpa using hi)] at h2
        rw [List.getElem?_replicate] at h2
        split at h2 <;> cases h2
    have ha : vs[i]? = some v := by
      unfold start at h2
      rw [List.getElem?_append_left (by simpa using hi), List.getElem?_map] at h2
      cases e : vs[i]? with
      | none => rw [e] at h2; cases h2
      | some a => rw [e] at h2; cases h2; rfl
    obtain ⟨u, hu, rv⟩ := r.get ha
    have hp : ps[i]? = some y := by
      rw [← S.pre, List.getElem?_take_of_lt (by omega)]; exact h1
    have ndP : ps.Nodup := by rw [← S.pre]; exact S.nd.sublist (List.take_sublist _ _)
    refine ⟨u, rv, ?_⟩
    rcases S.par y (List.mem_of_getElem? hp) with k | k
    · exact .inl ⟨k, bindL_get ndP hp hu k⟩
    · obtain ⟨c, e⟩ := cell_has (n := s.heap.objs.size + 1) k
      refine .inr ⟨.inl k, c, e, ?_⟩
      have q := x.cell y c e
      rw [bindC_get ndP hp hu (by show scope.names.lookup y ≠ _; rw [k]; decide)] at q
      exact q
  · exact e0.hok.fresh (Nat.le_of_lt (x.above y c (PySem.mem_of_lookup h)))
  · unfold start
    show _ = N.length
    rw [List.length_append, List.length_map, List.length_replicate]
    omega
theorem fn_of {CX : CXT} {P : Program} {w : World} {K : PySem.W.Frag} {mg : Str → Option Value} {base : Heap} {k : Nat} {f : Addr} {name qual : Str} {params : Arguments} {body : List Stmt} {scope : Scope} {dV kV doc pm cdv ct oc : Value} {an od : Option Addr}
    {osl : Array (Option Value)} {N ps : List Str} {sp : Sp} (lk : K.lookup f = some ⟨oc, od, .func (PySem.W.fnOf name qual params body scope dV kV doc pm an cdv ct), osl⟩) (hcd : PySem.W.codeIn K cdv qual = true) (S : FnScope N ps scope)
    (len : ∀ vs H Q E, sp vs H Q E → vs.length = ps.length)
    (hbody : ∀ (A : Around) (outer : List Env) (s : Shared) (H : Hp) (vs : List V) (Q : VK) (E : XK), Room k (A.deeper (envOfC qual scope s.heap.objs.size f cdv)) → sp vs H Q E →
      ∃ t, PSs (cxOf CX P w K mg base N qual scope f cdv A outer s H E) body t ∧ t { nx := fun _ H' => Q .non H', rt := Q } (start N vs) H) :
    FnOk P w K mg base CX (k + 1) f (PySem.W.fnOf name qual params body scope dV kV doc pm an cdv ct) ps sp := by
  refine ⟨len, fun A outer s H args us vs Q E hr e0 hb r hsp => ?_⟩
  have hl := len _ _ _ _ hsp
  have KX : K.In s.heap := e0.mod.kin.keeps fun b o e => (e0.bs b o e).1
  have lim : s.heap.NoLimit := e0.mod.nolimit.keeps fun b o e => (e0.bs b o e).1
  have hkind : ∀ y ∈ ps.zip us, scope.names.lookup y.1 = some .local ∨ (scope.names.lookup y.1 = some .cell ∧ ((cellsFrom (s.heap.objs.size + 1) scope.names []).lookup y.1).isSome = true) := fun ⟨n, v⟩ hy => by
    rcases S.par n (List.of_mem_zip hy).1 with q | q
    · exact .inl q
    · exact .inr ⟨q, PySem.W.cellsFrom_some _ _ _ (.inl q)⟩
  refine codeAny_call_function hr.depth (KX _ _ lk) rfl S.co S.gen rfl (PySem.W.codeRec_of KX hcd) (hb _ _ _ _ ?_)
  refine wpAny_newFunctionEnv_cells S.kind hkind fun env he s1 x => ?_
  subst he
  refine ⟨lim.keeps x.toInCall.keep, codeAny_func ?_⟩
  obtain ⟨t, ht, hq⟩ := hbody A outer s H vs Q E (hr.deeper _) hsp
  have I : Inv (cxOf CX P w K mg base N qual scope f cdv A outer s H E) [] (start N vs) H s1 := inv_start S hr.hd e0 hl r x
  refine wpAny_mono (ht [] s1 (start N vs) H _ I hq) (fun fl s' hs => ?_) fun e s' hs => hs
  have fin : ∀ {σ' : St} {H' : Hp} {v : V} {u : Value}, Inv (cxOf CX P w K mg base N qual scope f cdv A outer s H E) [] σ' H' s' → RelV v u → Q v H' → CE outer P w H s Q u s' :=
    fun {σ' H' v u} J rv q => ⟨v, H', J.os, J.bare, J.base, J.hok, rv, q⟩
  cases fl with
  | ret u =>
    obtain ⟨v, σ', H', J, rv, q⟩ := hs
    exact fin J rv q
  | next =>
    obtain ⟨σ', H', J, q⟩ := hs
    exact fin (v := V.non) (u := Value.none) J rfl q
  | brk =>
    obtain ⟨_, _, _, q⟩ := hs
    exact False.elim q
  | cont =>
    obtain ⟨_, _, _, q⟩ := hs
    exact False.elim q
end L2
namespace L2
open PySem PySem.Spec PyProof.Rows
section
variable {X : Cx} {x : Str} {p pos : Pos} {e : Expr} {es : List Expr} {t : TA} {id T : String} {r : List V → Hp → VK → Prop}
noncomputable def tCB (r : List V → Hp → VK → Prop) (t : TA) : TE := fun σ H Q => t σ H fun vs H1 => r vs H1 Q
theorem pe_callB (hc : CallR X (.builtin id) r) (hg : Gl X x) (hm : X.mg x = none) (hv : bootBuiltins x = some (.builtin id)) (ha : PA X (e :: es) t) (hn : x ≠ "__name__" := by decide) (hdb : (x == ("__debug__" : Str)) = false := by decide)
    (he : starEach (e :: es) X.env = (false, eval e X.env) :: starEach es X.env := by rfl) (hpl : (backTo pos (starEach es X.env)).any (·.1) = false := by rfl) : PE X (.Call (.Name x p) (e :: es) [] pos) (tCB r t) := by
  intro pins s σ H Q I h
  refine wpAny_Call_Name_kw (ld_blt I hg hm hv ?_ hn hdb)
  exact PyProof.Rows.callWith_builtin1 (thn (ha pos pins s σ H _ I h) fun us s1 ⟨vs, H1, I1, r1, q1⟩ => hc pins s1 σ H1 vs us Q I1 r1 q1) he hpl
theorem pe_callTy (hc : CallR X (.type T) r) (hg : Gl X x) (hm : X.mg x = none) (hv : bootBuiltins x = some (.type T)) (ha : PA X (e :: es) t) (hn : x ≠ "__name__" := by decide) (hdb : (x == ("__debug__" : Str)) = false := by decide)
    (he : starEach (e :: es) X.env = (false, eval e X.env) :: starEach es X.env := by rfl) (hpl : (backTo pos (starEach es X.env)).any (·.1) = false := by rfl) : PE X (.Call (.Name x p) (e :: es) [] pos) (tCB r t) := by
  intro pins s σ H Q I h
  refine wpAny_Call_Name_kw (ld_blt I hg hm hv ?_ hn hdb)
  exact PyProof.Rows.callWith_type1 (thn (ha pos pins s σ H _ I h) fun us s1 ⟨vs, H1, I1, r1, q1⟩ => hc pins s1 σ H1 vs us Q I1 r1 q1) he hpl
end
end L2
namespace HT
open PySem PyProof.Rows
noncomputable def lexLt : List Int → List Int → Bool
  | [], [] => false
  | [], _ :: _ => true
  | _ :: _, [] => false
  | x :: xs, y :: ys => if x = y then lexLt xs ys else decide (x < y)
section
open PySem.SeqAt
open PySem.AutoSeq1 (wpAny_loadPart')
open PySem.MeetsSeq PySem.MeetsSeq2 PySem.MeetsSeq3
end
section
variable {prog : Program} {w : World} {A : Around} {E : Value → Shared → Prop} {s : Shared}
theorem cat_tup {t b : Addr} {vs ws : List Value} {Q : Value → Shared → Prop} (ht : IsTup s.heap t vs.toArray) (hb : IsTup s.heap b ws.toArray) (hv : vs ≠ [])
    (h1 : ws = [] → Q (.ref t) s) (h2 : ws ≠ [] → Q (.ref s.heap.objs.size) { s with heap := s.heap.push { cls := .type "tuple", data := .seq (vs ++ ws).toArray } })
    (hsz : vs.length + ws.length ≤ sizeLine) : wpAny (model prog w) A (binaryOp .Add (.ref t) (.ref b)) Q E s := by
  obtain ⟨⟨cls, dd, data, sl⟩, ho, hc, n, hd⟩ := id ht
  obtain ⟨⟨cls2, dd2, data2, sl2⟩, ho2, hc2, n2, hd2⟩ := id hb
  simp only at hc hd hc2 hd2
  subst hc hd hc2 hd2
  have e : vs.toArray ++ ws.toArray = (vs ++ ws).toArray := by simp
  by_cases hw : ws = []
  · exact concat_meets ⟨_, ho, rfl⟩ ⟨_, ho2, rfl⟩ noFill_tuple_add seq_tuple_add PySem.F.slot_tuple_add PySem.F.entry_tuple_add (PySem.F.args_tuple_add_2 _ _)
      (tuple_addW1 t b vs.toArray ws.toArray n n2 dd dd2 sl sl2 (by simpa using hv) (by simp [hw])) ⟨ho, ho2, h1 hw⟩
  · refine concat_meets ⟨_, ho, rfl⟩ ⟨_, ho2, rfl⟩ noFill_tuple_add seq_tuple_add PySem.F.slot_tuple_add PySem.F.entry_tuple_add (PySem.F.args_tuple_add_2 _ _)
      (tuple_addW2 t b vs.toArray ws.toArray n n2 dd dd2 sl sl2 (by simpa using hv) (by simpa using hw) (by rw [List.size_toArray, List.size_toArray]; exact hsz)) ⟨ho, ho2, ?_⟩
    rw [e]
    exact h2 hw
noncomputable def sIx (n d : Nat) : Option Int → Nat
  | none => d
  | some v => if v < 0 then (v + (n : Int)).toNat else min v.toNat n
theorem sIx_le (n d : Nat) (hd : d ≤ n) (o : Option Int) : sIx n d o ≤ n := by
  cases o with
  | none => exact hd
  | some v =>
    show (if v < 0 then (v + (n : Int)).toNat else min v.toNat n) ≤ n
    by_cases hv : v < 0
    · rw [if_pos hv]; omega
    · rw [if_neg hv]; exact Nat.min_le_right _ _
theorem clip_eq (v : Int) (n d : Nat) : (if v < 0 then max (v + (n : Int)) 0 else min v (n : Int)) = ((sIx n d (some v) : Nat) : Int) := by
  show (if v < 0 then max (v + (n : Int)) 0 else min v (n : Int)) = (((if v < 0 then (v + (n : Int)).toNat else min v.toNat n) : Nat) : Int)
  by_cases hv : v < 0
  · simp only [if_pos hv]; omega
  · simp only [if_neg hv]; omega
theorem adjust_gen (lo hi : Option Int) (n : Nat) : Builtin.Slice.sliceAdjust lo hi 1 (n : Int) = (((sIx n 0 lo : Nat) : Int), ((sIx n n hi : Nat) : Int)) := by
  have h1 : ¬ ((1 : Int) < 0) := by omega
  unfold Builtin.Slice.sliceAdjust
  simp only [h1, if_false]
  refine Prod.ext ?_ ?_
  · cases lo with
    | none => rfl
    | some v => exact clip_eq v n 0
  · cases hi with
    | none => rfl
    | some v => exact clip_eq v n n
theorem places_gen (i j : Nat) : Builtin.Slice.slicePlaces (i : Int) (j : Int) 1 = j - i := by
  unfold Builtin.Slice.slicePlaces
  have h1 : (1 : Int) > 0 := by omega
  simp only [h1, if_true, Int.ediv_one]
  split <;> omega
theorem slicePart_ {v : Value} {o : Option Int} {Q : Option Int → Shared → Prop} (p : IsPart v o) (h : Q o s) : wpAny (model prog w) A (Builtin.Slice.slicePartIndex v) Q E s := by
  cases p with
  | none => exact slicePart_none h
  | int i t => exact slicePart_int h
theorem sliceApplied_gen {sl : Addr} {vl vu : Value} {lo hi : Option Int} {n : Nat} {Q : Int × Int × Nat → Shared → Prop} (hs : s.heap.IsSliceOf sl vl vu .none) (pl : IsPart vl lo) (pu : IsPart vu hi)
    (h : Q (((sIx n 0 lo : Nat) : Int), 1, sIx n n hi - sIx n 0 lo) s) : wpAny (model prog w) A (Builtin.Slice.sliceApplied (.ref sl) (pure (n : Int))) Q E s := by
  obtain ⟨os, hos, hcs, hds⟩ := id hs
  unfold Builtin.Slice.sliceApplied Builtin.Slice.sliceFields
  refine wpAny_bind (wpAny_bind (wpAny_field hos hds (x := vl) rfl (wpAny_bind (wpAny_field hos hds (x := vu) rfl (wpAny_bind (wpAny_field hos hds (x := .none) rfl (wpAny_pure ?_)))))))
  refine wpAny_bind (slicePart_none ?_)
  show wpAny _ _ (if ((1 : Int) == 0) = true then _ else _) _ _ s
  rw [if_neg (by decide)]
  refine wpAny_bind (slicePart_ pl (wpAny_bind (slicePart_ pu (wpAny_bind (wpAny_pure ?_)))))
  show wpAny _ _ (match Builtin.Slice.sliceAdjust lo hi 1 (n : Int) with | (lo, hi) => pure (lo, (1 : Int), Builtin.Slice.slicePlaces lo hi 1)) _ _ s
  rw [adjust_gen lo hi n]
  show wpAny _ _ (pure (((sIx n 0 lo : Nat) : Int), (1 : Int), Builtin.Slice.slicePlaces ((sIx n 0 lo : Nat) : Int) ((sIx n n hi : Nat) : Int) 1)) _ _ s
  rw [places_gen]
  exact wpAny_pure h
theorem pick_gen (xs : Array Value) (i k : Nat) : ((List.range k).filterMap fun (m : Nat) => xs[((i : Int) + (m : Int) * 1).toNat]?).toArray = ((xs.toList.drop i).take k).toArray := by
  have e : (fun (m : Nat) => xs[((i : Int) + (m : Int) * 1).toNat]?) = fun m => xs[i + m]? := by
    funext m
    have : ((i : Int) + (m : Int) * 1).toNat = i + m := by omega
    rw [this]
  rw [e]
  have := pick_run xs i k
  rw [List.filterMap_map] at this
  have e2 : ((fun x => xs[x]?) ∘ fun x => i + x) = fun m => xs[i + m]? := rfl
  rw [e2] at this
  rw [this]
theorem getItem_tuple_cut {t sl : Addr} {items : Array Value} {vl vu : Value} {lo hi : Option Int} {Q : Value → Shared → Prop} (ht : IsTup s.heap t items) (hs : s.heap.IsSliceOf sl vl vu .none) (pl : IsPart vl lo) (pu : IsPart vu hi)
    (hw : ¬ (sIx items.size 0 lo = 0 ∧ sIx items.size items.size hi = items.size))
    (h : Q (.ref s.heap.objs.size) { s with heap := s.heap.push { cls := .type "tuple", data := .seq ((items.toList.drop (sIx items.size 0 lo)).take (sIx items.size items.size hi - sIx items.size 0 lo)).toArray } })
    (hsz : items.size ≤ sizeLine) : wpAny (model prog w) A (getItem (.ref t) (.ref sl)) Q E s := by
  have htake : sizeOk (.seq ((items.toList.drop (sIx items.size 0 lo)).take (sIx items.size items.size hi - sIx items.size 0 lo)).toArray) := by
    show ((items.toList.drop (sIx items.size 0 lo)).take (sIx items.size items.size hi - sIx items.size 0 lo)).toArray.size ≤ sizeLine
    rw [List.size_toArray, List.length_take, List.length_drop, Array.length_toList]
    omega
  have hj : sIx items.size items.size hi ≤ items.size := sIx_le _ _ (Nat.le_refl _) hi
  obtain ⟨os, hos, hcs, hds⟩ := id hs
  have hTs : s.TypeIs (.ref sl) "slice" := ⟨os, hos, hcs⟩
  unfold getItem
  try with_reducible refine wpAny_holding ?_
  first | refine wpAny_bind (wpAny_pure ?_) | skip
  refine wpAny_bind (wpAny_sequenceKey ht.typeIs (by decide) ?_)
  refine wpAny_bind (wpAny_callSpecial?_slot (name := Str.ofString "__getitem__") ht.typeIs PyProof.Rows.slot_tuple_getitem
    (wpAny_call_entry PyProof.Rows.slot_tuple_getitem ht.typeIs entry_tuple_getitem ?_ (args_tuple_getitem _ _)))
  show wpAny _ _ (Builtin.Tuple.tupleItemsOf (.ref t) >>= _) _ _ s
  refine wpAny_bind (tupleItemsOf_ ht ?_)
  refine wpAny_bind (wpAny_typeOf hTs ?_)
  rw [if_pos (by decide)]
  refine wpAny_bind (sliceApplied_gen hs pl pu ?_)
  have hno : ¬ ((((sIx items.size 0 lo : Nat) : Int) == 0 && (1 : Int) == 1 && (sIx items.size items.size hi - sIx items.size 0 lo) == items.size) = true) := by
    intro q
    rw [Bool.and_eq_true, Bool.and_eq_true] at q
    have q1 : ((sIx items.size 0 lo : Nat) : Int) = 0 := eq_of_beq q.1.1
    have q2 : sIx items.size items.size hi - sIx items.size 0 lo = items.size := eq_of_beq q.2
    exact hw ⟨by omega, by omega⟩
  show wpAny _ _ (if (((sIx items.size 0 lo : Nat) : Int) == 0 && (1 : Int) == 1 && (sIx items.size items.size hi - sIx items.size 0 lo) == items.size) = true then _ else _) _ _ s
  rw [if_neg hno, pick_gen]
  first
    | exact wpAny_bind (m := Builtin.Tuple.tupleExact _) (wpAny_newObj_type (wpAny_pure ⟨_, rfl, wpAny_pure h⟩) htake)
    | exact wpAny_bind (m := Builtin.Tuple.tupleExact _) (wpAny_newObj_type (wpAny_bind (wpAny_pure (wpAny_pure ⟨_, rfl, wpAny_pure h⟩))) htake)
    | exact wpAny_bind (wpAny_bind (m := Builtin.Tuple.tupleExact _) (wpAny_newObj_type (wpAny_pure (wpAny_pure ⟨_, rfl, wpAny_pure h⟩)) htake))
    | exact wpAny_bind (wpAny_bind (m := Builtin.Tuple.tupleExact _) (wpAny_newObj_type (wpAny_pure ⟨_, rfl, wpAny_pure h⟩) htake))
end
end HT
namespace L2
open PySem PySem.Spec PyProof.Rows
noncomputable abbrev TO := St → Hp → (Option Int → Hp → Prop) → Prop
noncomputable def PO (X : Cx) (e : Option Expr) (t : TO) : Prop :=
  ∀ (pins : List (Addr × Obj)) (s : Shared) (σ : St) (H : Hp) (Q : Option Int → Hp → Prop), Inv X pins σ H s → t σ H Q →
    wpAny (model X.prog X.w) X.A (evalPart e X.env) (fun u s' => ∃ o H', Inv X pins σ H' s' ∧ IsPart u o ∧ Q o H') X.xe s
noncomputable def tNoPart : TO := fun _ H Q => Q none H
noncomputable def tPart (t : TE) : TO := fun σ H Q => t σ H fun x H1 => ∃ i, x = .int i ∧ Q (some i) H1
theorem intsAre_of {ns : List Int} : ∀ {us : List Value}, Vals (ns.map V.int) us → IntsAre us ns := by
  induction ns with
  | nil => intro us r; rw [List.map_nil] at r; cases r; exact .nil
  | cons n ns ih =>
    intro us r
    rw [List.map_cons] at r
    cases r with
    | cons r1 r2 =>
      obtain ⟨t, e⟩ := r1
      subst e
      exact .cons n t (ih r2)
section
variable {X : Cx} {e : Expr} {te : TE} {lo hi : Option Expr} {tl th : TO} {pos p2 : Pos}
theorem po_none : PO X none tNoPart := by
  intro pins s σ H Q I h
  rw [evalPart_none]
  exact wpAny_pure ⟨none, H, I, .none, h⟩
theorem po_some (h : PE X e te) : PO X (some e) (tPart te) := by
  intro pins s σ H Q I hw
  rw [evalPart_some]
  refine thn (h pins s σ H _ I hw) fun u s1 zq6 => ?_
  obtain ⟨x, H1, I1, r1, q1⟩ := zq6
  refine ?_
  obtain ⟨i, rfl, q⟩ := q1
  obtain ⟨t, rfl⟩ := r1
  exact ⟨some i, H1, I1, .int i t, q⟩
noncomputable def SlR (X : Cx) (r : V → Option Int → Option Int → Hp → VK → Prop) : Prop :=
  ∀ (pins : List (Addr × Obj)) (s : Shared) (σ : St) (H : Hp) (x : V) (v vl vu : Value) (lo hi : Option Int) (sl : Addr) (Q : VK), Inv X pins σ H s → RelV x v → s.heap.IsSliceOf sl vl vu .none → IsPart vl lo → IsPart vu hi → r x lo hi H Q →
    ∃ T id, typeLookup (.type T) "__getitem__" = pure (some (.builtin id)) ∧ s.TypeIs v T ∧ wpAny (model X.prog X.w) X.A (getItem v (.ref sl)) (EP X pins σ Q) X.xe s
theorem SlR.or {r r' : V → Option Int → Option Int → Hp → VK → Prop} (h : SlR X r) (h' : SlR X r') : SlR X (fun x lo hi H Q => r x lo hi H Q ∨ r' x lo hi H Q) := by
  intro pins s σ H x v vl vu lo hi sl Q I rx hs pl pu q
  rcases q with q | q
  · exact h pins s σ H x v vl vu lo hi sl Q I rx hs pl pu q
  · exact h' pins s σ H x v vl vu lo hi sl Q I rx hs pl pu q
noncomputable def tSl (r : V → Option Int → Option Int → Hp → VK → Prop) (te : TE) (tl th : TO) : TE := fun σ H Q => te σ H fun x H1 => tl σ H1 fun l H2 => th σ H2 fun u H3 => r x l u H3 Q
theorem pe_slice {r : V → Option Int → Option Int → Hp → VK → Prop} (hr : SlR X r) (he : PE X e te) (hl : PO X lo tl) (hu : PO X hi th) : PE X (.Subscript e (.Slice lo hi none p2) pos) (tSl r te tl th) := by
  intro pins s σ H Q I h
  refine Subscript_ (thn (he pins s σ H _ I h) fun v s1 zq19 => ?_)
  obtain ⟨x, H1, I1, r1, q1⟩ := zq19
  refine ?_
  refine wpAny_Slice (thn (hl pins s1 σ H1 _ I1 q1) fun vl s2 zq20 => ?_)
  obtain ⟨l, H2, I2, pl, q2⟩ := zq20
  refine thn (hu pins s2 σ H2 _ I2 q2) fun vu s3 zq21 => ?_
  obtain ⟨u, H3, I3, pu, q3⟩ := zq21
  refine ?_
  rw [evalPart_none]
  refine wpAny_pure ?_
  have I4 : Inv X pins σ H3 { s3 with heap := s3.heap.push { cls := .type "slice", data := .fields #[vl, vu, .none] } } := I3.kept (t' := s3.toks) fun b ob q => Heap.get?_push_of_some _ q
  obtain ⟨T, id, hT, ht, hg⟩ := hr pins { s3 with heap := s3.heap.push { cls := .type "slice", data := .fields #[vl, vu, .none] } } σ H3 x v vl vu l u s3.heap.objs.size Q I4 r1 (Heap.IsSliceOf.new ..) pl pu q3
  show wpAny (model X.prog X.w) X.A (subscriptTail e (.Slice lo hi none p2) v (.ref s3.heap.objs.size)) (EP X pins σ Q) X.xe { s3 with heap := s3.heap.push { cls := .type "slice", data := .fields #[vl, vu, .none] } }
  exact tail_any (ops := [.ref s3.heap.objs.size, v]) ht hT hg (by with_unfolding_all rfl)
noncomputable def cutV (xs : List V) (lo hi : Option Int) : List V := (xs.drop (HT.sIx xs.length 0 lo)).take (HT.sIx xs.length xs.length hi - HT.sIx xs.length 0 lo)
theorem cutV_length (xs : List V) (lo hi : Option Int) : (cutV xs lo hi).length ≤ xs.length := by
  unfold cutV
  rw [List.length_take, List.length_drop]
  omega
noncomputable def rSlT (K : PySem.W.Frag) : V → Option Int → Option Int → Hp → VK → Prop := fun x lo hi H Q => ∃ a xs, x = .ref a ∧ SqT K H a xs ∧
  ¬ (HT.sIx xs.length 0 lo = 0 ∧ HT.sIx xs.length xs.length hi = xs.length) ∧ ∀ p, H p = none → Q (.ref p) (upd H p (.tup (cutV xs lo hi)))
theorem sl_tup : SlR X (rSlT X.K) := by
  intro pins s σ H x v vl vu lo hi sl Q I rx hs pl pu h
  obtain ⟨a, xs, rfl, hx, hw, q⟩ := h
  cases rx
  obtain ⟨its, r, ht, hz⟩ := I.tuple hx
  have hlen : its.toArray.size = xs.length := by rw [List.size_toArray]; exact r.length.symm
  refine ⟨"tuple", _, PyProof.Rows.slot_tuple_getitem.lookup, ht.typeIs, ?_⟩
  refine HT.getItem_tuple_cut ht hs pl pu (by rw [hlen]; exact hw) ?_ (by rw [hlen]; exact hz)
  rw [hlen]
  refine ⟨.ref s.heap.objs.size, _, I.laid (t' := s.toks) (o := .tup (cutV xs lo hi)) (fun b ob q => Heap.get?_push_of_some _ q) (Nat.le_refl _) ?_, rfl, q _ (I.hok.fresh (Nat.le_refl _))⟩
  exact ⟨Nat.le_trans (cutV_length xs lo hi) hz, _, (r.drop (HT.sIx xs.length 0 lo)).take (HT.sIx xs.length xs.length hi - HT.sIx xs.length 0 lo), IsTup.new _ _⟩
noncomputable def rCatT (K : PySem.W.Frag) : R2 := fun x y H Q => ∃ a b xs ys, x = .ref a ∧ y = .ref b ∧ SqT K H a xs ∧ SqT K H b ys ∧ xs ≠ [] ∧ xs.length + ys.length ≤ sizeLine ∧
  (ys = [] → Q (.ref a) H) ∧ (ys ≠ [] → ∀ p, H p = none → Q (.ref p) (upd H p (.tup (xs ++ ys))))
theorem Vals.nil_iff {xs : List V} {us : List Value} (r : Vals xs us) : us = [] ↔ xs = [] := by
  cases r with
  | nil => simp
  | cons _ _ => simp
theorem op_catT : OpR X (binaryOp .Add) (rCatT X.K) := by
  intro pins s σ H x y v u Q I rx ry h
  obtain ⟨a, b, xs, ys, rfl, rfl, ha, hb, hx, hz, q1, q2⟩ := h
  cases rx
  cases ry
  obtain ⟨its, r1, p1, _⟩ := I.tuple ha
  obtain ⟨its2, r2, p2, _⟩ := I.tuple hb
  refine HT.cat_tup p1 p2 (fun z => hx (r1.nil_iff.mp z)) (fun z => ⟨.ref a, H, I, rfl, q1 (r2.nil_iff.mp z)⟩) (fun z => ?_) (by rw [← r1.length, ← r2.length]; exact hz)
  refine ⟨.ref s.heap.objs.size, _, I.laid (t' := s.toks) (o := .tup (xs ++ ys)) (fun b ob q => Heap.get?_push_of_some _ q) (Nat.le_refl _) ?_, rfl, q2 (fun w => z (r2.nil_iff.mpr w)) _ (I.hok.fresh (Nat.le_refl _))⟩
  exact ⟨by rw [List.length_append]; exact hz, _, r1.append r2, IsTup.new _ _⟩
end
end L2
namespace L2
open PySem PySem.Spec PyProof.Rows
noncomputable def ixN (n : Nat) (i : Int) : Option Nat := if 0 ≤ i then (if i < n then some i.toNat else none) else if -(n : Int) ≤ i then some (i + n).toNat else none
noncomputable def atI {α : Type} (xs : List α) (i : Int) : Option α := (ixN xs.length i).bind fun j => xs[j]?
theorem ixN_seq {n : Nat} {i : Int} {j : Nat} (h : ixN n i = some j) : seqIndex? i n = some j ∧ j < n ∧ -(n : Int) ≤ i ∧ i < n := by
  unfold ixN at h
  by_cases h0 : 0 ≤ i
  · rw [if_pos h0] at h
    by_cases h1 : i < n
    · rw [if_pos h1] at h
      have e : i.toNat = j := Option.some.inj h
      exact ⟨by rw [seqIndex_of h0 h1, e], by omega, by omega, h1⟩
    · rw [if_neg h1] at h; cases h
  · rw [if_neg h0] at h
    by_cases h1 : -(n : Int) ≤ i
    · rw [if_pos h1] at h
      have e : (i + n).toNat = j := Option.some.inj h
      exact ⟨by rw [seqIndex_neg (by omega) h1, e], by omega, h1, by omega⟩
    · rw [if_neg h1] at h; cases h
theorem atI_get {α : Type} {xs : List α} {i : Int} {v : α} (h : atI xs i = some v) : ∃ j, seqIndex? i xs.length = some j ∧ xs[j]? = some v ∧ j < xs.length ∧ -(xs.length : Int) ≤ i ∧ i < xs.length := by
  unfold atI at h
  cases e : ixN xs.length i with
  | none => rw [e] at h; cases h
  | some j =>
    rw [e] at h
    obtain ⟨h1, h2, h3, h4⟩ := ixN_seq e
    exact ⟨j, h1, h, h2, h3, h4⟩
theorem atI_nat {α : Type} {xs : List α} {j : Nat} {v : α} (h : xs[j]? = some v) : atI xs (j : Int) = some v := by
  have hj : j < xs.length := (List.getElem?_eq_some_iff.mp h).1
  have e : ixN xs.length (j : Int) = some j := by
    unfold ixN
    rw [if_pos (by omega), if_pos (by omega)]; simp
  unfold atI; rw [e]; exact h
noncomputable def PlainIx (b : Expr) : Prop := ∀ o i, subscripted b false o i = operate [o, i] (getItem o i)
noncomputable def IxR (X : Cx) (r : R2) : Prop :=
  ∀ (value slice : Expr) (pins : List (Addr × Obj)) (s : Shared) (σ : St) (H : Hp) (x y : V) (v u : Value) (Q : VK), Inv X pins σ H s → RelV x v → RelV y u → r x y H Q →
    subscripted slice false v u = operate [v, u] (getItem v u) → wpAny (model X.prog X.w) X.A (subscriptTail value slice v u) (EP X pins σ Q) X.xe s
noncomputable def MtR (X : Cx) (id : String) (r : V → List V → Hp → VK → Prop) : Prop :=
  ∀ (pins : List (Addr × Obj)) (s : Shared) (σ : St) (H : Hp) (x : V) (xs : List V) (v : Value) (us : List Value) (Q : VK), Inv X pins σ H s → RelV x v → Vals xs us → r x xs H Q →
    wpAny (model X.prog X.w) X.A (call (.builtin id) (v :: us)) (EP X pins σ Q) X.xe s
section
variable {X : Cx} {a b : Expr} {ta tb : TE} {pos : Pos}
theorem IxR.or {r r' : R2} (h : IxR X r) (h' : IxR X r') : IxR X (fun x y H Q => r x y H Q ∨ r' x y H Q) := by
  intro value slice pins s σ H x y v u Q I rx ry q hs
  rcases q with q | q
  · exact h value slice pins s σ H x y v u Q I rx ry q hs
  · exact h' value slice pins s σ H x y v u Q I rx ry q hs
theorem pe_ix {r : R2} (hr : IxR X r) (ha : PE X a ta) (hb : PE X b tb) (hs : PlainIx b) : PE X (.Subscript a b pos) (tOp r ta tb) := by
  intro pins s σ H Q I h
  exact Subscript_ (binT ha hb I h fun v u s2 x y H2 I2 rx ry q => hr a b pins s2 σ H2 x y v u Q I2 rx ry q (hs _ _))
noncomputable def rIxL (K : PySem.W.Frag) : R2 := fun x y H Q => ∃ p xs i v, x = .ref p ∧ y = .int i ∧ SqL K H p xs ∧ atI xs i = some v ∧ Q v H
noncomputable def rIxT (K : PySem.W.Frag) : R2 := fun x y H Q => ∃ p xs i v, x = .ref p ∧ y = .int i ∧ SqT K H p xs ∧ atI xs i = some v ∧ Q v H
noncomputable def rIxS : R2 := fun x y H Q => ∃ z i c, x = .str z ∧ y = .int i ∧ z.length ≤ sizeLine ∧ atI z.cps.toList i = some c ∧ Q (.str ⟨#[c]⟩) H
theorem ix_list : IxR X (rIxL X.K) := by
  intro value slice pins s σ H x y v u Q I rx ry h hs
  obtain ⟨p, xs, i, z, rfl, rfl, hq, he, q⟩ := h
  cases rx
  obtain ⟨t, rfl⟩ := ry
  obtain ⟨its, r, pl, hz⟩ := I.list hq
  obtain ⟨j, h1, h2, h3, h4, h5⟩ := atI_get he
  obtain ⟨w, ew, rw'⟩ := r.get h2
  have hl := r.length
  have hn := line63
  have fin : EP X pins σ Q w s := ⟨z, H, I, rw', q⟩
  by_cases h0 : 0 ≤ i
  · have hj : i.toNat = j := by
      rw [seqIndex_of h0 h5] at h1
      exact Option.some.inj h1
    exact item_listR pl.isList h0 (by omega) (by rw [hj]; simpa using ew) fin hs
  · have hj : (i + (its.toArray.size : Int)).toNat = j := by
      rw [seqIndex_neg (by omega) h4] at h1
      rw [List.size_toArray, ← hl]
      exact Option.some.inj h1
    exact subscriptTail_builtinR (x := w) pl.isList.typeIs slot_list_getitem.lookup
      (wpAny_getItem_list_neg (Q := fun r s' => r = w ∧ EP X pins σ Q r s') pl.isList (by omega) (by rw [List.size_toArray] <;> omega) (by omega) (by rw [hj]; simpa using ew) ⟨rfl, fin⟩) hs
theorem ix_tup : IxR X (rIxT X.K) := by
  intro value slice pins s σ H x y v u Q I rx ry h hs
  obtain ⟨p, xs, i, z, rfl, rfl, hq, he, q⟩ := h
  cases rx
  obtain ⟨t, rfl⟩ := ry
  obtain ⟨its, r, pl, hz⟩ := I.tuple hq
  obtain ⟨j, h1, h2, h3, h4, h5⟩ := atI_get he
  obtain ⟨w, ew, rw'⟩ := r.get h2
  have hl := r.length
  have hn := line63
  have fin : EP X pins σ Q w s := ⟨z, H, I, rw', q⟩
  exact subscriptTail_builtinR (x := w) pl.typeIs slot_tuple_getitem.lookup
    (getItem_tuple (j := j) (Q := fun r s' => r = w ∧ EP X pins σ Q r s') pl (by omega) (by omega) (by rw [List.size_toArray, ← hl]; exact h1) (by simpa using ew) ⟨rfl, fin⟩) hs
theorem ix_str : IxR X rIxS := by
  intro value slice pins s σ H x y v u Q I rx ry h hs
  obtain ⟨z, i, c, rfl, rfl, hz, he, q⟩ := h
  obtain ⟨t, rfl⟩ := rx
  obtain ⟨t', rfl⟩ := ry
  obtain ⟨j, h1, h2, h3, h4, h5⟩ := atI_get he
  have hl : z.cps.toList.length = z.length := by simp [Str.length]
  rw [hl] at h1 h4 h5
  have hn := line63
  exact tail_any (typeIs_str s z t) slot_str_getitem.lookup (getItem_str (c := c) (by
    have e1 : decide (i < -(2 ^ 63 : Int)) = false := decide_eq_false (by omega)
    have e2 : decide (i ≥ 2 ^ 63) = false := decide_eq_false (by omega)
    rw [e1, e2, Bool.or_false]) (by rw [h1]; simpa using h2) ⟨.str ⟨#[c]⟩, H, I.tok _, ⟨_, rfl⟩, q⟩) hs
noncomputable def rIx (K : PySem.W.Frag) : R2 := fun x y H Q => rIxL K x y H Q ∨ rIxT K x y H Q ∨ rIxS x y H Q
theorem ix_seq : IxR X (rIx X.K) := ix_list.or (ix_tup.or ix_str)
theorem mapSeq_set (its : List Value) (n j : Nat) (u : Value) : Obj.mapSeq (·.setIfInBounds j u) { cls := .type "list", data := .seq its.toArray n } = { cls := .type "list", data := .seq (its.set j u).toArray n } := by
  simp [Obj.mapSeq]
theorem Inv.lst {pins : List (Addr × Obj)} {σ : St} {H : Hp} {s : Shared} {p : Addr} {xs : List V} (I : Inv X pins σ H s) (h : H p = some (.lst xs)) :
    ∃ (its : List Value) (n : Nat), Vals xs its ∧ s.heap.get? p = some { cls := .type "list", data := .seq its.toArray n } ∧ xs.length ≤ sizeLine := by
  obtain ⟨z, its, n, r, e⟩ := I.hok p _ h
  exact ⟨its, n, r, e, z⟩
theorem Inv.lstUpd {pins : List (Addr × Obj)} {σ : St} {H : Hp} {s : Shared} {p : Addr} {xs ys : List V} {its its' : List Value} {n n' : Nat} {f : Obj → Obj} (I : Inv X pins σ H s) (h : H p = some (.lst xs))
    (ho : s.heap.get? p = some { cls := .type "list", data := .seq its.toArray n }) (hf : f { cls := .type "list", data := .seq its.toArray n } = { cls := .type "list", data := .seq its'.toArray n' }) (r : Vals ys its') (hz : ys.length ≤ sizeLine) (t : Nat) :
    Inv X pins σ (upd H p (.lst ys)) { s with heap := s.heap.update p f, toks := t } := by
  have e : (s.heap.update p f).get? p = some { cls := .type "list", data := .seq its'.toArray n' } := by
    rw [Heap.get?_update_self f ho (by rw [hf] <;> rfl), hf]
  refine I.write (x := p) (e := p) (by rw [h]; trivial) (.inl rfl) (fun b u hb q => (Heap.get?_update_other _ _ (Ne.symm hb)).trans q) ⟨_, e⟩ ?_
  exact ⟨hz, its', n', r, e⟩
noncomputable def rSetL : V → V → V → Hp → (Hp → Prop) → Prop := fun o i v H Q => ∃ p xs k j, o = .ref p ∧ i = .int k ∧ H p = some (.lst xs) ∧ ixN xs.length k = some j ∧ Q (upd H p (.lst (xs.set j v)))
theorem set_list : PSet X rSetL := by
  intro pins s σ H o i v ov iv u Q I ro ri rv h
  obtain ⟨p, xs, k, j, rfl, rfl, hp, hj, q⟩ := h
  cases ro
  obtain ⟨t, rfl⟩ := ri
  obtain ⟨its, n, r, ho, hz⟩ := I.lst hp
  obtain ⟨h1, h2, h3, h4⟩ := ixN_seq hj
  have hl := r.length
  have hn := line63
  have I' : Inv X pins σ (upd H p (.lst (xs.set j v))) { s with heap := s.heap.update p (Obj.mapSeq (·.setIfInBounds j u)) } :=
    I.lstUpd hp ho (mapSeq_set its n j u) (r.set rv j) (by rw [List.length_set]; exact hz) s.toks
  by_cases h0 : 0 ≤ k
  · have hk : k.toNat = j := by
      rw [seqIndex_of h0 h4] at h1
      exact Option.some.inj h1
    exact PySem.W.ki_setAt ho h0 (by omega) (by rw [List.size_toArray, ← hl]; exact h4) (by rw [hk]; exact ⟨_, I', q⟩)
  · have hk : (k + (its.toArray.size : Int)).toNat = j := by
      rw [seqIndex_neg (by omega) h3] at h1
      rw [List.size_toArray, ← hl]
      exact Option.some.inj h1
    exact PySem.W.ki_setBack ho (by omega) (by rw [List.size_toArray, ← hl]; exact h3) (by omega) (by rw [hk]; exact ⟨_, I', q⟩)
theorem slice_bounds (lo hi : Option Int) (n : Nat) : (sliceBounds lo hi none n).1 = ((HT.sIx n 0 lo : Nat) : Int) ∧ (sliceBounds lo hi none n).2.1 = ((HT.sIx n n hi : Nat) : Int) ∧ (sliceBounds lo hi none n).2.2 = 1 := by
  refine ⟨?_, ?_, rfl⟩
  · cases lo with
    | none => simp [sliceBounds, HT.sIx]
    | some i =>
      simp only [sliceBounds, HT.sIx, Option.getD_none, show (1 : Int) > 0 by decide, if_true]
      by_cases h : i < 0
      · simp only [h, if_true] <;> omega
      · simp only [h, if_false] <;> omega
  · cases hi with
    | none => simp [sliceBounds, HT.sIx]
    | some i =>
      simp only [sliceBounds, HT.sIx, Option.getD_none, show (1 : Int) > 0 by decide, if_true]
      by_cases h : i < 0
      · simp only [h, if_true] <;> omega
      · simp only [h, if_false] <;> omega
theorem slicePick_cut (its : List Value) (lo hi : Option Int) : slicePick its.toArray lo hi none = ((its.drop (HT.sIx its.length 0 lo)).take (HT.sIx its.length its.length hi - HT.sIx its.length 0 lo)).toArray := by
  obtain ⟨h1, h2, h3⟩ := slice_bounds lo hi its.toArray.size
  unfold slicePick
  rw [h1, h2, h3]
  simp only [sliceRange_one, pick_run, List.size_toArray] <;> rfl
noncomputable def rSlL (K : PySem.W.Frag) : V → Option Int → Option Int → Hp → VK → Prop := fun x lo hi H Q => ∃ a xs, x = .ref a ∧ SqL K H a xs ∧ ∀ p, H p = none → Q (.ref p) (upd H p (.lst (cutV xs lo hi)))
theorem sl_list : SlR X (rSlL X.K) := by
  intro pins s σ H x v vl vu lo hi sl Q I rx hs pl pu h
  obtain ⟨a, xs, rfl, hx, q⟩ := h
  cases rx
  obtain ⟨its, r, ht, hz⟩ := I.list hx
  have hlen := r.length
  refine ⟨"list", _, slot_list_getitem.lookup, ht.isList.typeIs, ?_⟩
  refine wpAny_getItem_list_slice ht.isList hs pl pu .none (by simp) ?_ (by rw [List.size_toArray] <;> omega)
  rw [slicePick_cut, ← hlen]
  refine ⟨.ref s.heap.objs.size, _, I.laid (t' := s.toks) (o := .lst (cutV xs lo hi)) (fun b ob q => Heap.get?_push_of_some _ q) (Nat.le_refl _) ?_, rfl, q _ (I.hok.fresh (Nat.le_refl _))⟩
  exact ⟨Nat.le_trans (cutV_length xs lo hi) hz, _, 0, (r.drop (HT.sIx xs.length 0 lo)).take (HT.sIx xs.length xs.length hi - HT.sIx xs.length 0 lo), Heap.get?_push_size _ rfl⟩
theorem call_len_seq : CallR X (.builtin "len") (fun xs H Q => ∃ p ys, xs = [.ref p] ∧ (SqL X.K H p ys ∨ SqT X.K H p ys) ∧ Q (.int ys.length) H) := by
  intro pins s σ H xs us Q I r h
  obtain ⟨p, ys, rfl, hq, q⟩ := h
  obtain ⟨u, rfl, rx⟩ := vals1 r
  cases rx
  have hn := line63
  rcases hq with hq | hq
  · obtain ⟨its, r', pl, hz⟩ := I.list hq
    have hlen := r'.length
    exact Calls.call_len_list pl.isList (by simp only [List.size_toArray] <;> omega) ⟨.int ys.length, H, I.tok _, ⟨s.toks + 1, by rw [List.size_toArray, hlen]⟩, q⟩
  · obtain ⟨its, r', pl, hz⟩ := I.tuple hq
    have hlen := r'.length
    exact len_tuple pl (by simp only [List.size_toArray] <;> omega) ⟨.int ys.length, H, I.tok _, ⟨s.toks + 1, by rw [List.size_toArray, hlen]⟩, q⟩
theorem call_list_of : CallR X (.type "list") (fun xs H Q => ∃ p ys, xs = [.ref p] ∧ (SqL X.K H p ys ∨ SqT X.K H p ys) ∧ ∀ l, H l = none → Q (.ref l) (upd H l (.lst ys))) := by
  intro pins s σ H xs us Q I r h
  obtain ⟨p, ys, rfl, hq, q⟩ := h
  obtain ⟨u, rfl, rx⟩ := vals1 r
  cases rx
  have fin : ∀ (its : List Value), Vals ys its → ys.length ≤ sizeLine → ∀ (h' : Heap) (c' : Nat), (∀ b o', s.heap.get? b = some o' → h'.get? b = some o') →
      h'.get? s.heap.objs.size = some { cls := .type "list", dict := none, data := .seq its.toArray c', slots := #[] } → EP X pins σ Q (.ref s.heap.objs.size) { s with heap := h' } := fun its r' hz h' c' kp e =>
    ⟨.ref s.heap.objs.size, _, I.laid (t' := s.toks) kp (Nat.le_refl _) (show ObjOk X.prog X.w _ h' _ (.lst ys) from ⟨hz, its, c', r', e⟩), rfl, q _ (I.hok.fresh (Nat.le_refl _))⟩
  rcases hq with hq | hq
  · obtain ⟨its, r', pl, hz⟩ := I.list hq
    have hlen := r'.length
    obtain ⟨o, ho, hc, n, hd⟩ := pl.isList
    exact call_list_seq p (.inl rfl) ho hc hd (fun h' c' kp e => fin its r' hz h' c' kp e) (by simp only [List.size_toArray] <;> omega)
  · obtain ⟨its, r', pl, hz⟩ := I.tuple hq
    have hlen := r'.length
    obtain ⟨o, ho, hc, n, hd⟩ := pl
    exact call_list_seq p (.inr rfl) ho hc hd (fun h' c' kp e => fin its r' hz h' c' kp e) (by simp only [List.size_toArray] <;> omega)
theorem call_tuple_of : CallR X (.type "tuple") (fun xs H Q => ∃ p ys, xs = [.ref p] ∧ ((SqL X.K H p ys ∧ ∀ l, H l = none → Q (.ref l) (upd H l (.tup ys))) ∨ (SqT X.K H p ys ∧ Q (.ref p) H))) := by
  intro pins s σ H xs us Q I r h
  obtain ⟨p, ys, rfl, h⟩ := h
  obtain ⟨u, rfl, rx⟩ := vals1 r
  cases rx
  rcases h with ⟨hq, q⟩ | ⟨hq, q⟩
  · obtain ⟨its, r', pl, hz⟩ := I.list hq
    have hlen := r'.length
    refine call_tuple_list pl.isList (fun h' kp => ?_) (by simp only [List.size_toArray] <;> omega)
    have I1 : Inv X pins σ H { s with heap := h' } := I.kept (t' := s.toks) kp
    have I2 : Inv X pins σ (upd H h'.objs.size (.tup ys)) { s with heap := h'.push { cls := .type "tuple", data := .seq its.toArray } } :=
      I1.laid (t' := s.toks) (fun b o e => Heap.get?_push_of_some _ e) (Nat.le_refl _) (show ObjOk X.prog X.w _ _ _ (.tup ys) from ⟨hz, its, r', IsTup.new _ _⟩)
    exact ⟨.ref h'.objs.size, _, I2, rfl, q _ (I1.hok.fresh (Nat.le_refl _))⟩
  · obtain ⟨its, r', pl, hz⟩ := I.tuple hq
    exact call_tuple_same pl ⟨.ref p, H, I, rfl, q⟩
noncomputable def tyV (K : PySem.W.Frag) (T : String) (x : V) (H : Hp) : Prop := match x with
  | .str _ => T = "str"
  | .int _ => T = "int"
  | .ref p => (T = "list" ∧ ∃ xs, SqL K H p xs) ∨ (T = "tuple" ∧ ∃ o, K.lookup p = some o ∧ o.cls = .type "tuple" ∧ o.dict = none) ∨
      (T = "dict" ∧ ((∃ kvs, H p = some (.dK kvs)) ∨ ∃ kvs, H p = some (.dT kvs))) ∨ (T = "set" ∧ ∃ S n, H p = some (.set S n))
  | _ => False
theorem tyV_is {pins : List (Addr × Obj)} {σ : St} {H : Hp} {s : Shared} {T : String} {x : V} {v : Value} (I : Inv X pins σ H s) (r : RelV x v) (ty : tyV X.K T x H) :
    s.TypeIs v T ∧ ∀ a, v = .ref a → ∃ ob, s.heap.get? a = some ob ∧ ob.dict = none := by
  cases x with
  | str z =>
    obtain ⟨t, rfl⟩ := r
    cases (show T = "str" from ty)
    exact ⟨typeIs_str s z t, fun _ e => nomatch e⟩
  | int i =>
    obtain ⟨t, rfl⟩ := r
    cases (show T = "int" from ty)
    exact ⟨typeIs_int s i t, fun _ e => nomatch e⟩
  | ref p =>
    cases r
    rcases ty with ⟨rfl, xs, hq⟩ | ⟨rfl, o, hk, hc, hd⟩ | ⟨rfl, hk⟩ | ⟨rfl, S, n, hk⟩
    · obtain ⟨its, _, pl, _⟩ := I.list hq
      refine ⟨pl.isList.typeIs, fun a e => ?_⟩
      cases e
      obtain ⟨o, n, e, c, hd, _⟩ := pl
      exact ⟨o, e, hd⟩
    · refine ⟨⟨o, I.kIn p o hk, hc⟩, fun a e => ?_⟩
      cases e
      exact ⟨o, I.kIn _ o hk, hd⟩
    · have z : ∃ o, s.heap.get? p = some o ∧ o.ExactDict := by
        rcases hk with ⟨kvs, hk⟩ | ⟨kvs, hk⟩
        · obtain ⟨_, _, _, _, o, _, _, e, ex, _⟩ := I.hok p _ hk
          exact ⟨o, e, ex⟩
        · obtain ⟨_, _, _, _, o, _, _, e, ex, _⟩ := I.hok p _ hk
          exact ⟨o, e, ex⟩
      obtain ⟨o, e, ex⟩ := z
      refine ⟨⟨o, e, ex.1⟩, fun a e2 => ?_⟩
      cases e2
      exact ⟨o, e, ex.2.1⟩
    · obtain ⟨o, _, _, _, e, ex, _⟩ := I.hok p _ hk
      refine ⟨⟨o, e, ex.1⟩, fun a e2 => ?_⟩
      cases e2
      exact ⟨o, e, ex.2.1⟩
  | _ => exact False.elim ty
noncomputable def tBM0 (K : PySem.W.Frag) (T : String) (r : V → List V → Hp → VK → Prop) (to : TE) : TE := fun σ H Q => to σ H fun x H1 => tyV K T x H1 ∧ r x [] H1 Q
noncomputable def tBM (K : PySem.W.Frag) (T : String) (r : V → List V → Hp → VK → Prop) (to : TE) (t : TA) : TE := fun σ H Q => to σ H fun x H1 => tyV K T x H1 ∧ t σ H1 fun xs H2 => r x xs H2 Q
variable {o e : Expr} {es : List Expr} {to : TE} {t : TA} {name : Str} {apos cpos : Pos} {T id : String} {r : V → List V → Hp → VK → Prop}
theorem pe_bm0 (pa : PlainAttrs T) (slot : Slot T name id) (hty : typeOf (.builtin id) = pure (.type "method_descriptor")) (hm : MtR X id r) (ho : PE X o to)
    (hbase : attributeBase o name X.env (eval o X.env) = eval o X.env := by rfl) (hline : (apos.endLine == cpos.line) = true := by rfl) : PE X (.Call (.Attribute o name apos) [] [] cpos) (tBM0 X.K T r to) := by
  intro pins s σ H Q I h
  refine wpAny_Call_method0_late hbase hline (thn (ho pins s σ H _ I h) fun v s1 zq22 => ?_)
  obtain ⟨x, H1, I1, r1, ty, q1⟩ := zq22
  refine ?_
  obtain ⟨h1, h2⟩ := tyV_is I1 r1 ty
  exact ⟨T, id, pa, slot, hty, h1, h2, Calls.callWith_builtin rfl (PySem.evalArgs_none (hm pins s1 σ H1 x [] v [] Q I1 r1 .nil q1))⟩
theorem pe_bm (pa : PlainAttrs T) (slot : Slot T name id) (hty : typeOf (.builtin id) = pure (.type "method_descriptor")) (hm : MtR X id r) (ho : PE X o to) (ha : PA X (e :: es) t)
    (hbase : attributeBase o name X.env (eval o X.env) = eval o X.env := by rfl)
    (hfew : ((backTo cpos (starEach (e :: es) X.env)).all (fun x => !x.1) && (backToKw cpos (keywordEach [] X.env)).all (fun x => x.1.isSome)
      && decide ((e :: es).length + ([] : List Keyword).length + (if ([] : List Keyword).isEmpty then 0 else 1) < 30)) = true := by rfl)
    (hline : (apos.endLine == cpos.line) = true := by rfl) (hs : starEach (e :: es) X.env = (false, eval e X.env) :: starEach es X.env := by rfl) (hplain : (backTo cpos (starEach es X.env)).any (·.1) = false := by rfl) :
    PE X (.Call (.Attribute o name apos) (e :: es) [] cpos) (tBM X.K T r to t) := by
  intro pins s σ H Q I h
  refine wpAny_Call_method_late hbase hfew hline rfl (thn (ho pins s σ H _ I h) fun v s1 zq23 => ?_)
  obtain ⟨x, H1, I1, r1, ty, q1⟩ := zq23
  refine ?_
  obtain ⟨h1, h2⟩ := tyV_is I1 r1 ty
  refine ⟨T, id, pa, slot, hty, h1, h2, ?_⟩
  have hA := ha cpos pins s1 σ H1 _ I1 q1
  rw [hs] at hA ⊢
  refine Calls.callWith_builtin (by show (false || (backTo cpos (starEach es X.env)).any (·.1)) = false; rw [hplain] <;> rfl) (Calls.evalArgs_plain ?_)
  refine thn hA fun us s2 zq7 => ?_
  obtain ⟨vs, H2, I2, r2, q2⟩ := zq7
  exact hm pins s2 σ H2 x vs v us Q I2 r1 r2 q2
end
end L2
namespace L2
open PySem PySem.Spec PyProof.Rows
noncomputable def MtM (X : Cx) (id : String) (r : V → List V → Hp → VK → Prop) : Prop :=
  ∀ (pins : List (Addr × Obj)) (s : Shared) (σ : St) (H : Hp) (x : V) (xs : List V) (v : Value) (us : List Value) (Q : VK), Inv X pins σ H s → RelV x v → Vals xs us → r x xs H Q →
    wpAny (model X.prog X.w) X.A (call (.builtin id) (v :: us)) (EP X pins σ Q) X.xe s
theorem Vals.one {x : V} {us : List Value} (h : Vals [x] us) : ∃ u, us = [u] ∧ RelV x u := by
  cases h with
  | cons r t => cases t; exact ⟨_, rfl, r⟩
theorem Vals.two {x y : V} {us : List Value} (h : Vals [x, y] us) : ∃ u v, us = [u, v] ∧ RelV x u ∧ RelV y v := by
  cases h with
  | cons r t =>
    cases t with
    | cons q t2 => cases t2; exact ⟨_, _, rfl, r, q⟩
theorem Vals.zero : ∀ {us : List Value}, Vals [] us → us = []
  | _, .nil => rfl
theorem Vals.rep {xs : List V} {us : List Value} (h : Vals xs us) : ∀ k : Nat, Vals (List.replicate k xs).flatten (List.replicate k us).flatten
  | 0 => .nil
  | k + 1 => by
    rw [List.replicate_succ, List.replicate_succ, List.flatten_cons, List.flatten_cons]
    exact Vals.append h (Vals.rep h k)
theorem foldl_rep (its : List Value) : ∀ (k : Nat) (acc : List Value),
    List.foldl (fun x1 x2 => x1 ++ x2) acc.toArray (List.replicate k its.toArray) = (acc ++ (List.replicate k its).flatten).toArray
  | 0, acc => by simp
  | k + 1, acc => by
    have e : acc.toArray ++ its.toArray = (acc ++ its).toArray := by simp
    have e2 : (acc ++ its) ++ (List.replicate k its).flatten = acc ++ (List.replicate (k + 1) its).flatten := by
      rw [List.replicate_succ, List.flatten_cons, List.append_assoc]
    rw [← e2, ← foldl_rep its k (acc ++ its), ← e, List.replicate_succ, List.foldl_cons]
section
variable {X : Cx} {pins : List (Addr × Obj)} {σ : St} {H : Hp} {s : Shared} {l b : Addr} {xs ys zs : List V}
theorem Inv.lset {its its' : List Value} {n : Nat} {f : Array Value → Array Value} {t' : Nat} (I : Inv X pins σ H s) (hH : H l = some (.lst xs))
    (e : s.heap.get? l = some { cls := .type "list", data := .seq its.toArray n }) (hf : f its.toArray = its'.toArray) (hv : Vals ys its') (hz : ys.length ≤ sizeLine) :
    Inv X pins σ (upd H l (.lst ys)) { s with heap := s.heap.update l (Obj.mapSeq f), toks := t' } := by
  have q := PySem.IsL.update e f
  rw [hf] at q
  refine I.write (x := l) (e := l) (by rw [hH]; exact trivial) (.inl rfl) (fun b' u hb hu => (Heap.get?_update_other s.heap (Obj.mapSeq f) (Ne.symm hb)).trans hu) ⟨_, q⟩ ?_
  exact ⟨hz, its', _, hv, q⟩
theorem Inv.lnew {its : List Value} {t' : Nat} (I : Inv X pins σ H s) (hv : Vals ys its) (hz : ys.length ≤ sizeLine) :
    Inv X pins σ (upd H s.heap.objs.size (.lst ys)) { s with heap := s.heap.push { cls := .type "list", data := .seq its.toArray }, toks := t' } :=
  I.laid (fun _ _ q => Heap.get?_push_of_some _ q) (Nat.le_refl _) ⟨hz, its, 0, hv, Heap.get?_push_size _ rfl⟩
theorem Inv.fresh (I : Inv X pins σ H s) : H s.heap.objs.size = none := I.hok.fresh (Nat.le_refl _)
theorem Inv.lstM (I : Inv X pins σ H s) (hH : H l = some (.lst xs)) : xs.length ≤ sizeLine ∧ ∃ (its : List Value) (n : Nat), Vals xs its ∧ xs.length = its.length ∧ s.heap.get? l = some { cls := .type "list", data := .seq its.toArray n } := by
  obtain ⟨z, its, n, r, e⟩ := I.hok l _ hH
  exact ⟨z, its, n, r, r.length, e⟩
theorem notLongL {n : Nat} (h : n ≤ sizeLine) : Builtin.List.listTooLong n = false := by
  unfold Builtin.List.listTooLong
  exact decide_eq_false (by omega)
end
section
variable {X : Cx}
noncomputable def rAppend : V → List V → Hp → VK → Prop := fun x vs H Q => ∃ l xs y, x = .ref l ∧ vs = [y] ∧ H l = some (.lst xs) ∧ xs.length < sizeLine ∧ Q .non (upd H l (.lst (xs ++ [y])))
theorem mt_append : MtM X "list.append" rAppend := by
  intro pins s σ H x vs v us Q I rx rv h
  obtain ⟨l, xs, y, rfl, rfl, hH, hz, q⟩ := h
  cases rx
  obtain ⟨u, rfl, ru⟩ := rv.one
  obtain ⟨z, its, n, r, hl, e⟩ := I.lstM hH
  refine call_meets F.slot_list_append ⟨_, e, rfl⟩ F.entry_list_append (F.args_list_append_2 _ _) (PySem.list_append l its.toArray n u (by rw [List.size_toArray]; omega)) ⟨e, ?_⟩
  refine ⟨.non, _, I.lset (its' := its ++ [u]) hH e (by simp) (r.append (.cons ru .nil)) ?_, rfl, q⟩
  rw [List.length_append, List.length_singleton]
  omega
noncomputable def rClear : V → List V → Hp → VK → Prop := fun x vs H Q => ∃ l xs, x = .ref l ∧ vs = [] ∧ H l = some (.lst xs) ∧ Q .non (upd H l (.lst []))
theorem mt_clear : MtM X "list.clear" rClear := by
  intro pins s σ H x vs v us Q I rx rv h
  obtain ⟨l, xs, rfl, rfl, hH, q⟩ := h
  cases rx
  have hus := rv.zero
  subst hus
  obtain ⟨z, its, n, r, hl, e⟩ := I.lstM hH
  refine call_meets F.slot_list_clear ⟨_, e, rfl⟩ F.entry_list_clear (F.args_list_clear_1 _) (AutoSeq1.list_clear_list_0 l its.toArray n (by rw [List.size_toArray]; omega)) ⟨e, ?_⟩
  exact ⟨.non, _, I.lset (its' := []) (ys := []) hH e rfl .nil (Nat.zero_le _), rfl, q⟩
noncomputable def rCat : R2 := fun x y H Q => ∃ l b xs zs, x = .ref l ∧ y = .ref b ∧ H l = some (.lst xs) ∧ H b = some (.lst zs) ∧ xs.length + zs.length ≤ sizeLine ∧ ∀ p, H p = none → Q (.ref p) (upd H p (.lst (xs ++ zs)))
theorem op_cat : OpR X (binaryOp .Add) rCat := by
  intro pins s σ H x y v u Q I rx ry h
  obtain ⟨l, b, xs, zs, rfl, rfl, hH, hB, hz, q⟩ := h
  cases rx
  cases ry
  obtain ⟨z, its, n, r, hl, e⟩ := I.lstM hH
  obtain ⟨z2, its2, n2, r2, hl2, e2⟩ := I.lstM hB
  refine PySem.P.add_list e e2 ?_ (by rw [List.size_toArray, List.size_toArray]; omega)
  have ea : its.toArray ++ its2.toArray = (its ++ its2).toArray := by simp
  rw [ea]
  exact ⟨.ref _, _, I.lnew (t' := s.toks) (r.append r2) (by rw [List.length_append]; omega), rfl, q _ I.fresh⟩
noncomputable def rRep : R2 := fun x y H Q => ∃ l k xs, x = .ref l ∧ y = .int k ∧ H l = some (.lst xs) ∧ -(2 ^ 63) ≤ k ∧ k < 2 ^ 63 ∧ xs.length * k.toNat ≤ sizeLine ∧
  ∀ p, H p = none → Q (.ref p) (upd H p (.lst (List.replicate k.toNat xs).flatten))
theorem len_rep {α : Type} (xs : List α) (k : Nat) : (List.replicate k xs).flatten.length = k * xs.length := by
  induction k with
  | zero => simp
  | succ k ih => rw [List.replicate_succ, List.flatten_cons, List.length_append, ih, Nat.succ_mul, Nat.add_comm]
theorem op_rep : OpR X (binaryOp .Mult) rRep := by
  intro pins s σ H x y v u Q I rx ry h
  obtain ⟨l, k, xs, rfl, rfl, hH, h1, h2, hz, q⟩ := h
  cases rx
  obtain ⟨t, rfl⟩ := ry
  obtain ⟨z, its, n, r, hl, e⟩ := I.lstM hH
  have hlen : its.toArray.size * k.toNat ≤ sizeLine := by rw [List.size_toArray, ← hl]; exact hz
  have hcap : ¬ its.toArray.size * k.toNat > (2 ^ 63 - 1) / 8 := by
    have : (sizeLine : Nat) ≤ (2 ^ 63 - 1) / 8 := by decide
    omega
  have hfit : ¬ (!Builtin.List.listFitsIndex k) = true := by
    rw [fitsIndex_both h1 h2]
    exact Bool.false_ne_true
  have hlong : ¬ Builtin.List.listTooLong (its.toArray.size * k.toNat) = true := by
    rw [notLongL hlen]
    exact Bool.false_ne_true
  have hnew : List.foldl (fun x1 x2 => x1 ++ x2) #[] (List.replicate (if its.toArray.isEmpty = true then 0 else k.toNat) its.toArray) = (List.replicate k.toNat its).flatten.toArray := by
    have f0 : ∀ m : Nat, List.foldl (fun x1 x2 => x1 ++ x2) #[] (List.replicate m its.toArray) = (List.replicate m its).flatten.toArray := fun m => by
      have := foldl_rep its m []
      rw [List.nil_append] at this
      exact this
    rw [f0]
    cases its with
    | nil => simp
    | cons a r' => rw [if_neg (by simp)]
  refine wpAny_binaryOp_repeat_ref (T := "list") (U := "int") (by decide) ⟨_, e, rfl⟩ (fun s' => typeIs_int s' k t) noFill_list_mul F.fills_int_mul F.slot_int_rmul repeat_list F.slot_int_index.lookup
    (call_meets F.slot_int_rmul (typeIs_int s k t) F.entry_int_rmul (F.args_int_rmul_2 _ _) (int___rmul___int_list k t l its.toArray n)
      ⟨e, rfl, ⟨_, e, rfl⟩, call_meets F.slot_list_mul ⟨_, e, rfl⟩ F.entry_list_mul (F.args_list_mul_2 _ _) (AutoListH.list___mul___list_int_3 l its.toArray n k t hfit hcap hlong) ⟨e, ?_⟩⟩)
  rw [hnew]
  exact ⟨.ref _, _, I.lnew (t' := s.toks) (r.rep k.toNat) (by rw [len_rep, Nat.mul_comm]; exact hz), rfl, q _ I.fresh⟩
end
section
variable {prog : Program} {w : World} {A : Around} {E : Value → Shared → Prop} {s : Shared}
end
section
variable {X : Cx}
end
end L2
namespace Att
open PySem PySem.W PySem.Calls PyProof.Rows
theorem ints_of_wellAll {P : Params} {h : Heap} : ∀ (ns : List Int) (vs : List Value), WellAll P h vs (ns.map WData.int) → IntsAre vs ns := by
  intro ns
  induction ns with
  | nil =>
    intro vs w
    rw [List.map_nil] at w
    cases w
    exact .nil
  | cons n ns ih =>
    intro vs w
    rw [List.map_cons] at w
    cases w with
    | cons a b =>
      cases a
      exact .cons _ _ (ih _ b)
theorem script_of {l : OpenLaw} {n : Nat} (hn : l.most = some n) {P : Params} {h : Heap} {args : List WData} {vals : List Value}
    (hpre : l.row.toRowW.claim.pre args = true) (hwl : WellAll P h vals args) :
    ∃ a vs ns, vals = [Value.ref a] ∧ args = [WData.list (ns.map WData.int)] ∧ h.get? a = some { cls := .type "list", data := .seq vs.toArray } ∧ IntsAre vs ns ∧ ns.length ≤ n := by
  have hsh : WShape.hasAll [] args [.list .int] = true := (pre_splitW hpre).1
  have hc : l.pre.holds [] { args := args } = true := (pre_splitW hpre).2
  obtain ⟨d, r, rfl, h1, h2⟩ := hasAllW_cons hsh
  obtain rfl := hasAllW_nil h2
  obtain ⟨xs, rfl, h3⟩ := hasW_list h1
  obtain ⟨ns, rfl⟩ := items_int h3
  have hlen : ns.length ≤ n := by
    unfold OpenLaw.pre at hc
    have h4 : (WTm.not (.lt (.lit (.int (n : Int))) (.len (.arg 0)))).holds [] { args := [.list (ns.map .int)] } = true := by
      have h4 := (holds_andW hc).1
      rw [hn] at h4
      exact h4
    have h5 := condW_of h4 (w_not (w_lt w_lit (w_len_list (w_arg rfl))))
    rw [List.length_map] at h5
    refine Nat.le_of_not_lt fun q => ?_
    have q' : (n : Int) < ((ns.length : Nat) : Int) := by omega
    first
      | (rw [decide_eq_true q'] at h5; exact absurd h5 (by decide))
      | (simp at h5; omega)
  cases hwl with
  | cons w1 w2 =>
    cases w2
    cases w1 with
    | list ho hall => exact ⟨_, _, ns, rfl, rfl, ho, ints_of_wellAll ns _ hall, hlen⟩
theorem post_true (l : OpenLaw) (args : List WData) : l.row.toRowW.claim.post args (.bool true) args = true :=
  postW_of (r := l.row.toRowW) (X := (true == true))
    (show WShape.has [] (.bool true) .bool = true by first | rfl | decide | simp [WShape.has, WShape.arms, WShape.armsAll])
    (show (WTm.eq .res (.lit (.bool true))).value [] { args := args, res := some (.bool true), after := args } = some (.bool (true == true)) from w_eq_bool (w_res rfl) w_lit) rfl
theorem attach_call {l : OpenLaw} {n : Nat} {q : Program} {loose : List Str} {XP : (Str → Option Value) → Heap → Prop} {YP : World → Heap → Prop} {d : DefRec}
    (hn : l.most = some n) (hdf : d.params.defaults = [])
    (call : ∀ (w : World) (s₀ s₁ : Shared) (mg mb : Str → Option Value) (fa : Addr) (o : Obj) (pm cd doc : Value) (a : Addr) (vs : List Value) (ns : List Int),
      Ground q loose [] XP w s₀ mg mb s₁.heap → YP w s₁.heap →
      s₁.heap.get? fa = some o → o.data = .func (docDef d.name d.params d.body d.scope pm cd doc) → s₁.heap.CodeRec cd d.name → mg d.name = some (.ref fa) →
      s₁.heap.get? a = some { cls := .type "list", data := .seq vs.toArray } → IntsAre vs ns → ns.length ≤ n → s₁.gens = #[] →
      codeAny (model l.prog w) callerA (.call (.ref fa) ⟨[.ref a], []⟩) (fun r s' => r = .ok (.ret (.bool true)) ∧ OldK s₁.heap s'.heap ∧ s'.os = s₁.os ∧ AllBare s'.gens) s₁) :
    WalkO q loose XP YP l.row.toRowW d [] (fun f vs => PySem.call f vs) := by
  intro w s₀ s₁ mg mb G Y fa o pm cd doc dV kV ho hd hcd hD hmg hg args vals as hpre hlay hrd hwl hlo
  obtain rfl : dV = .none := Dflts.none hD hdf
  obtain rfl : kV = .none := Dflts.noKw hD
  obtain ⟨a, vs, ns, rfl, rfl, hobj, hints, hlen⟩ := script_of hn hpre hwl
  refine enter_call (codeAny_mono (call w s₀ s₁ mg mb fa o pm cd doc a vs ns G Y ho (fd_plain hd) hcd hmg hobj hints hlen hg) fun r s' hq => ?_)
  obtain ⟨rfl, h2, h3, h4⟩ := hq
  exact ⟨.inl ⟨.bool true, .bool true, [], rfl, fun _ => rfl, .bool true, post_true l _, fun _ => ⟨List.Pairwise.nil, fun _ hm => (nomatch hm)⟩⟩, h2, h3, h4⟩
section
variable {prog : Program} {w : World} {A : Around} {E : Value → Shared → Prop} {s : Shared} {K : Frag}
noncomputable def noObjs (h : Heap) : Heap := { h with objs := #[] }
theorem noObjs_get (h : Heap) (b : Addr) : (noObjs h).get? b = none := by
  cases e : (noObjs h).get? b with
  | none => rfl
  | some o => exact absurd (Heap.lt_size e) (Nat.not_lt_zero _)
noncomputable def ledger (h : Heap) (L d : Addr) : List (Addr × Obj) := (List.range h.objs.size).filterMap fun a => if a = L ∨ a = d then none else (h.get? a).map fun o => (a, o)
theorem mem_ledger {h : Heap} {L d a : Addr} {o : Obj} : (a, o) ∈ ledger h L d ↔ a ≠ L ∧ a ≠ d ∧ h.get? a = some o := by
  unfold ledger
  rw [List.mem_filterMap]
  constructor
  · rintro ⟨b, _, e⟩
    split at e
    · cases e
    · rename_i hb
      obtain ⟨o', ho, e'⟩ := Option.map_eq_some_iff.mp e
      cases e'
      exact ⟨fun q => hb (.inl q), fun q => hb (.inr q), ho⟩
  · rintro ⟨n1, n2, ho⟩
    refine ⟨a, List.mem_range.mpr (Heap.lt_size ho), ?_⟩
    rw [if_neg (show ¬ (a = L ∨ a = d) from fun q => q.elim n1 n2), ho] <;> rfl
theorem fr_all {h : Heap} {L : Addr} {m : Str → Option Value} (n : h.Ns L m) : Fr (noObjs h) L h m :=
  ⟨n, fun b o e => (by rw [noObjs_get] at e; cases e), Nat.zero_le _⟩
end
end Att
namespace L2
open PySem PySem.Spec PyProof.Rows
theorem vals_ints : ∀ {vs : List Value} {ns : List Int}, IntsAre vs ns → Vals (ns.map V.int) vs
  | _, _, .nil => .nil
  | _, _, .cons n t h => .cons ⟨t, rfl⟩ (vals_ints h)
noncomputable def Only (H : Hp) : Prop := ∀ b, H b = none ∨ ∃ o xs, H b = some (.frz o (.lst xs))
theorem law_call {P : Program} {w : World} {K : PySem.W.Frag} {mg mb : Str → Option Value} {CX : CXT} {k : Nat} {fa a : Addr} {fd : FuncData} {x : Str} {sp : Sp} {s₁ : Shared} {vs : List Value} {ns : List Int}
    (KX : K.In s₁.heap) (hns : s₁.heap.Ns mainGlobals mg) (hb : s₁.heap.Ns builtinsNs mb) (hbb : ∀ x : Str, x ≠ "__name__" → mb x = bootBuiltins x) (hlim : s₁.heap.NoLimit) (hg : s₁.gens = #[])
    (ha : s₁.heap.get? a = some { cls := .type "list", data := .seq vs.toArray }) (hi : IntsAre vs ns) (hl : ns.length ≤ sizeLine) (hr : Room k callerA)
    (F : ∀ base : Heap, K.In base → base.Ns mainGlobals mg → FnOk P w K mg base CX k fa fd [x] sp) (hbind : ∀ (s : Shared) (u : Value), BindsTo s fd ⟨[u], []⟩ [(x, u)])
    (hsp : ∀ H : Hp, Only H → SqL K H a (ns.map V.int) → sp [.ref a] H (fun v _ => v = .bl true) fun _ _ _ => False)
    (hCX : ∀ H e s', CX [] H s₁ (fun _ _ _ => False) e s' → False) :
    codeAny (model P w) callerA (.call (.ref fa) ⟨[.ref a], []⟩) (fun r s' => r = .ok (.ret (.bool true)) ∧ OldK s₁.heap s'.heap ∧ s'.os = s₁.os ∧ AllBare s'.gens) s₁ := by
  have rv := vals_ints hi
  have lenV := hi.length
  have core : ∀ H : Hp, Only H → SqL K H a (ns.map V.int) → HOk P w H s₁.heap → (∀ b, H b ≠ none → b = a) → (H a ≠ none → K.lookup a = none) →
      codeAny (model P w) callerA (.call (.ref fa) ⟨[.ref a], []⟩) (fun r s' => r = .ok (.ret (.bool true)) ∧ OldK s₁.heap s'.heap ∧ s'.os = s₁.os ∧ AllBare s'.gens) s₁ := by
    intro H hO hS hok hA hK
    have base_of : ∀ {b : Addr} {o : Obj}, s₁.heap.get? b = some o → H b = none → (hidT s₁.heap H).get? b = some o := fun e n => hidT_get e n
    have noA : ∀ {b : Addr} {o : Obj} {es : Array DictEntry} {ep : Nat}, s₁.heap.get? b = some o → o.data = .dict es ep → H b = none := fun {b o es ep} e d => by
      cases q : H b with
      | none => rfl
      | some u =>
        have e' : b = a := hA b (by rw [q]; simp)
        subst e'
        rw [ha] at e; cases e
        have d' : Data.seq vs.toArray _ = Data.dict es ep := d
        cases d'
    have nsK : ∀ {b : Addr} {m : Str → Option Value}, s₁.heap.Ns b m → (hidT s₁.heap H).Ns b m := fun {b m} ⟨o, es, ep, e, d, r⟩ => ⟨o, es, ep, base_of e (noA e d), d, r⟩
    have hKb : K.In (hidT s₁.heap H) := fun b o e => base_of (KX b o e) (by
      cases q : H b with
      | none => rfl
      | some u =>
        have e' : b = a := hA b (by rw [q]; simp)
        subst e'
        rw [hK (by rw [q]; simp)] at e; cases e)
    have hM : Mod K mg (hidT s₁.heap H) := ⟨hKb, nsK hns, ⟨mb, nsK hb, hbb⟩, let ⟨mc, h1, h2⟩ := hlim; ⟨mc, nsK h1, h2⟩⟩
    have e0 : Env0 P w K mg (hidT s₁.heap H) callerA [] s₁ H := ⟨rfl, hM, fun b o e => of_hidT e, Nat.le_of_eq (hidT_size _ _), trivial, fun b hb => absurd (show b ∈ ([] : List Addr) from hb) (by simp), hok, .of_eq hg⟩
    refine codeAny_mono ((F _ hKb (nsK hns)).run callerA [] s₁ H ⟨[.ref a], []⟩ [.ref a] [.ref a] _ _ hr e0 (hbind s₁ (.ref a)) (.cons rfl .nil) (hsp H hO hS)) fun r s' h => ?_
    cases r with
    | error e => exact (hCX H e s' h).elim
    | ok fl =>
      cases fl with
      | next => exact False.elim h
      | brk => exact False.elim h
      | cont => exact False.elim h
      | ret u =>
        obtain ⟨v, H', os, bare, un, hok', r', q⟩ := h
        have q' : v = .bl true := q
        subst q'
        obtain rfl : u = Value.bool true := r'
        refine ⟨rfl, OldK.of_keep fun b o e => ?_, os, bare⟩
        cases q : H b with
        | none => exact un.keep b o e q (by intro z; exact absurd (show b ∈ ([] : List Addr) from z) (by simp)) (by simp)
        | some u =>
          rcases hO b with z | ⟨ob, xs, z⟩
          · rw [q] at z; cases z
          · have z2 := un.frzs b ob _ z
            obtain ⟨e1, _⟩ := hok b _ z
            obtain ⟨e2, _⟩ := hok' b _ z2
            rw [e] at e1; cases e1
            exact e2
  cases hk : K.lookup a with
  | some o =>
    have e := KX a o hk
    rw [ha] at e
    cases e
    refine core (fun _ => none) (fun _ => .inl rfl) (.inr ⟨_, vs.toArray, _, hk, rfl, rfl, rfl, by rw [List.size_toArray, lenV]; exact hl, by simpa using rv⟩) (fun b u z => by have z' : (none : Option HO) = some u := z; cases z') (fun b z => absurd rfl z) fun z => absurd rfl z
  | none =>
    refine core (fun b => if b = a then some (.frz { cls := .type "list", data := .seq vs.toArray } (.lst (ns.map V.int))) else none) (fun b => ?_) (.inl (.inr ⟨{ cls := .type "list", data := .seq vs.toArray }, if_pos rfl⟩)) (fun b u z => ?_) (fun b z => ?_) fun _ => hk
    · by_cases hb : b = a
      · exact .inr ⟨_, _, if_pos hb⟩
      · exact .inl (if_neg hb)
    · by_cases hb : b = a
      · have z' := (if_pos hb).symm.trans z
        cases z'
        subst hb
        exact ⟨ha, by rw [List.length_map]; exact hl, vs, _, rv, ha⟩
      · have z' := (if_neg hb).symm.trans z
        cases z'
    · by_cases hb : b = a
      · exact hb
      · exact absurd (if_neg hb) z
end L2
namespace L2
open PySem PySem.Spec PyProof.Rows
theorem walk_of {l : PySem.W.OpenLaw} {n k : Nat} {q : Program} {loose : List Str} {XP : (Str → Option Value) → Heap → Prop} {YP : World → Heap → Prop} {d : DefRec} {K : Params → PySem.W.Frag} {CX : World → CXT} {sp : World → Sp} {x : Str}
    (hn : l.most = some n) (hn2 : n ≤ sizeLine) (hdf : d.params.defaults = []) (hr : Room k callerA)
    (hY : ∀ (w : World) (h : Heap), YP w h → (K w.params).In h)
    (F : ∀ (w : World) (mg : Str → Option Value) (fa : Addr) (h : Heap), (K w.params).In h → h.Ns mainGlobals mg → mg d.name = some (.ref fa) →
      ∃ fd : FuncData, (∀ (s : Shared) (u : Value), BindsTo s fd ⟨[u], []⟩ [(x, u)]) ∧
        ∀ base : Heap, (K w.params).In base → base.Ns mainGlobals mg → FnOk l.prog w (K w.params) mg base (CX w) k fa fd [x] (sp w))
    (hsp : ∀ (w : World) (H : Hp) (a : Addr) (ns : List Int), ns.length ≤ n → Only H → SqL (K w.params) H a (ns.map V.int) → sp w [.ref a] H (fun v _ => v = .bl true) fun _ _ _ => False)
    (hCX : ∀ (w : World) (H : Hp) (s : Shared) (e : Value) (s' : Shared), CX w [] H s (fun _ _ _ => False) e s' → False) :
    PySem.W.WalkO q loose XP YP l.row.toRowW d [] (fun f vs => PySem.call f vs) := by
  refine Att.attach_call hn hdf fun w s₀ s₁ mg mb fa o pm cd doc a vs ns G Y ho hd hcd hmg hobj hints hlen hg => ?_
  have KX := hY w _ Y
  obtain ⟨fd, hb, hF⟩ := F w mg fa _ KX G.T.g hmg
  exact law_call KX G.T.g G.T.b G.T.builtins G.T.nolimit hg hobj hints (Nat.le_trans hlen hn2) hr hF hb (fun H hO hS => hsp w H a ns hlen hO hS) fun H e s' => hCX w H s₁ e s'
end L2
namespace L2
open PySem PySem.Spec PyProof.Rows
noncomputable def defArgs (s : Stmt) : Arguments := match s with
  | .FunctionDef _ a _ _ _ _ _ _ _ _ => a
  | _ => { posonlyargs := [], args := [], vararg := none, kwonlyargs := [], kw_defaults := [], kwarg := none, defaults := [] }
noncomputable def defBody (s : Stmt) : List Stmt := match s with
  | .FunctionDef _ _ b _ _ _ _ _ _ _ => b
  | _ => []
noncomputable def defScope (s : Stmt) : Scope := match s with
  | .FunctionDef _ _ _ _ _ _ sc _ _ _ => sc
  | _ => { kind := .function, names := [], isGenerator := false, isCoroutine := false }
noncomputable abbrev CX0 : CXT := fun _ _ _ _ _ _ => False
noncomputable abbrev E0 : XK := fun _ _ _ => False
theorem pass0 {X : Cx} : Passes CX0 X E0 := fun _ _ _ _ _ _ _ h => h.elim
structure Fun (K : PySem.W.Frag) (x qual : Str) (st : Stmt) (f : Addr) (fd : FuncData) : Prop where
  ex : ∃ (oc : Value) (od : Option Addr) (kV doc pm : Value) (an : Option Addr) (cdv ct : Value) (osl : Array (Option Value)),
    fd = PySem.W.fnOf x qual (defArgs st) (defBody st) (defScope st) .none kV doc pm an cdv ct ∧ K.lookup f = some ⟨oc, od, .func fd, osl⟩ ∧ PySem.W.codeIn K cdv qual = true
  kp : PySem.W.keepIn K (.ref f) = true
section
variable {P : Program} {w : World} {K : PySem.W.Frag} {mg : Str → Option Value} {base : Heap}
theorem Fun.ok {x qual : Str} {st : Stmt} {f : Addr} {fd : FuncData} {N ps : List Str} {k : Nat} {sp : Sp} (F : Fun K x qual st f fd) (S : FnScope N ps (defScope st)) (len : ∀ vs H Q E, sp vs H Q E → vs.length = ps.length)
    (hbody : ∀ (cdv : Value) (A : Around) (outer : List Env) (s : Shared) (H : Hp) (vs : List V) (Q : VK) (E : XK), Room k (A.deeper (envOfC qual (defScope st) s.heap.objs.size f cdv)) → sp vs H Q E →
      ∃ t, PSs (cxOf CX0 P w K mg base N qual (defScope st) f cdv A outer s H E).nox (defBody st) t ∧ t { nx := fun _ H' => Q .non H', rt := Q } (start N vs) H) : FnOk P w K mg base CX0 (k + 1) f fd ps sp := by
  obtain ⟨oc, od, kV, doc, pm, an, cdv, ct, osl, rfl, lk, hcd⟩ := F.ex
  refine fn_of lk hcd S len fun A outer s H vs Q E hr hsp => ?_
  obtain ⟨t, h, q⟩ := hbody cdv A outer s H vs Q E hr hsp
  exact ⟨t, h.nox, q⟩
theorem Fun.binds {x qual : Str} {st : Stmt} {f : Addr} {fd : FuncData} {ps : List Str} (F : Fun K x qual st f fd)
    (h : ∀ (kV doc pm : Value) (an : Option Addr) (cdv ct : Value) (us : List Value), us.length = ps.length → bindArgs (PySem.W.fnOf x qual (defArgs st) (defBody st) (defScope st) .none kV doc pm an cdv ct) ⟨us, []⟩ = pure (ps.zip us)) : Binds K fd ps [] := by
  obtain ⟨oc, od, kV, doc, pm, an, cdv, ct, osl, rfl, lk, hcd⟩ := F.ex
  exact .all (h kV doc pm an cdv ct)
theorem fun_mk {x qual : Str} {st : Stmt} {f : Addr} {oc : Value} {od an : Option Addr} {osl : Array (Option Value)} {kV doc pm cdv ct : Value} (l : K.lookup f = some ⟨oc, od, .func (PySem.W.fnOf x qual (defArgs st) (defBody st) (defScope st) .none kV doc pm an cdv ct), osl⟩)
    (c : PySem.W.codeIn K cdv qual = true) (k : PySem.W.keepIn K (.ref f) = true) : Fun K x qual st f (PySem.W.fnOf x qual (defArgs st) (defBody st) (defScope st) .none kV doc pm an cdv ct) := ⟨⟨oc, od, kV, doc, pm, an, cdv, ct, osl, rfl, l, c⟩, k⟩
end
section
variable {X : Cx}
end
noncomputable def Same (H H' : Hp) : Prop := ∀ b o, H b = some o → H' b = some o
theorem Same.refl (H : Hp) : Same H H := fun _ _ h => h
end L2
namespace Fm
inductive D where
  | non | bl (b : Bool) | int (i : Int) | str (x : List Nat) | tup (l : List D) | ref (n : Nat) | lit (l : List D) | exn (c : String) (l : List D)
deriving Inhabited
inductive Cell where
  | lst (l : List D) | dct (l : List (Int × D))
noncomputable abbrev Hd := List Cell
inductive Res (α : Type) where
  | ok (a : α) (h : Hd) | exc (x : D) (h : Hd) | bad
noncomputable def Res.bind {α β : Type} (r : Res α) (f : α → Hd → Res β) : Res β := match r with
  | .ok a h => f a h | .exc x h => .exc x h | .bad => .bad
@[simp] theorem bind_ok {α β : Type} (a : α) (h : Hd) (f : α → Hd → Res β) : (Res.ok a h).bind f = f a h := rfl
noncomputable abbrev Sd := List (Option D)
noncomputable abbrev EF := Sd → Hd → Res D
noncomputable abbrev TF := Sd → Hd → Res Bool
noncomputable abbrev LF := Sd → Hd → Res (List D)
inductive Out where
  | nx (σ : Sd) (h : Hd) | rt (d : D) (h : Hd) | bk (σ : Sd) (h : Hd) | ct (σ : Sd) (h : Hd) | exc (x : D) (σ : Sd) (h : Hd) | bad
noncomputable abbrev SF := Sd → Hd → Out
noncomputable abbrev Fn := List D → Hd → Res D
noncomputable abbrev SZ : Nat := 1000000
@[simp] noncomputable def slot (σ : Sd) (i : Nat) : Option D := match σ[i]? with | some (some d) => some d | _ => none
@[simp] noncomputable def fVar (i : Nat) : EF := fun σ h => match slot σ i with | some d => .ok d h | none => .bad
@[simp] noncomputable def fC (d : D) : EF := fun _ h => .ok d h
noncomputable abbrev O2 := D → D → Hd → Res D
@[simp] noncomputable def fBin (g : O2) (a b : EF) : EF := fun σ h => (a σ h).bind fun x h => (b σ h).bind fun y h => g x y h
@[simp] noncomputable def fUn (g : D → Hd → Res D) (a : EF) : EF := fun σ h => (a σ h).bind fun x h => g x h
@[simp] noncomputable def oI (g : Int → Int → Int) : O2 := fun x y h => match x, y with | .int i, .int j => .ok (.int (g i j)) h | _, _ => .bad
@[simp] noncomputable def oB (g : Int → Int → Bool) : O2 := fun x y h => match x, y with | .int i, .int j => .ok (.bl (g i j)) h | _, _ => .bad
@[simp] noncomputable def oIc (c : Int → Int → Bool) (g : Int → Int → Int) : O2 := fun x y h => match x, y with | .int i, .int j => if c i j then .ok (.int (g i j)) h else .bad | _, _ => .bad
noncomputable def sml (i : Int) : Bool := decide (-18446744073709551616 < i) && decide (i < 18446744073709551616)
@[simp] noncomputable def oAdd : O2 := fun x y h => match x, y with
  | .int i, .int j => .ok (.int (i + j)) h
  | .tup (x :: xs), .tup ys => if (x :: xs).length + ys.length ≤ SZ then .ok (.tup (x :: xs ++ ys)) h else .bad
  | _, _ => .bad
@[simp] noncomputable def oSub : O2 := fun x y h => (oI (· - ·)) x y h
@[simp] noncomputable def oIAdd : O2 := fun x y h => (oI (· + ·)) x y h
@[simp] noncomputable def oISub : O2 := fun x y h => (oI (· - ·)) x y h
@[simp] noncomputable def oMul : O2 := fun x y h => (oIc (fun i j => sml i || sml j) (· * ·)) x y h
@[simp] noncomputable def oMod : O2 := fun x y h => (oIc (fun _ j => decide (0 < j)) (· % ·)) x y h
@[simp] noncomputable def oDiv : O2 := fun x y h => (oIc (fun _ j => decide (0 < j) && decide (j < 2 ^ 250)) (· / ·)) x y h
@[simp] noncomputable def oPow : O2 := fun x y h => (oIc (fun i j => decide (0 ≤ j) && decide (j ≤ 1000000) && sml i) (fun i j => i ^ j.toNat)) x y h
@[simp] noncomputable def oLt : O2 := fun x y h => (oB fun i j => decide (i < j)) x y h
@[simp] noncomputable def oLe : O2 := fun x y h => (oB fun i j => decide (i ≤ j)) x y h
@[simp] noncomputable def oGt : O2 := fun x y h => (oB fun i j => decide (j < i)) x y h
@[simp] noncomputable def uNeg : D → Hd → Res D := fun x h => match x with | .int i => .ok (.int (-i)) h | _ => .bad
@[simp] noncomputable def isNon : D → Bool | .non => true | _ => false
@[simp] noncomputable def oIsNotN : O2 := fun x y h => if isNon y then .ok (.bl (!isNon x)) h else .bad
@[simp] noncomputable def b2i (b : Bool) : Int := if b then 1 else 0
mutual
noncomputable def peq : D → D → Option Bool
  | .int i, k => match k with | .int j => some (decide (i = j)) | .bl c => some (decide (i = b2i c)) | .non => some false | .tup _ => some false | _ => none
  | .bl c, k => match k with | .int j => some (decide (b2i c = j)) | .bl d => some (decide (c = d)) | _ => none
  | .str x, k => match k with | .str y => some (decide (x = y)) | _ => none
  | .non, k => match k with | .non => some true | .int _ => some false | .tup _ => some false | _ => none
  | .tup xs, k => match k with | .tup ys => (peqs xs ys).map fun b => b && decide (xs.length = ys.length) | .non => some false | .int _ => some false | _ => none
  | .ref _, _ => none
  | .lit _, _ => none
  | .exn _ _, _ => none
noncomputable def peqs : List D → List D → Option Bool
  | x :: xs, y :: ys => match peq x y, peqs xs ys with
    | some a, some b => some (a && b)
    | _, _ => none
  | _, _ => some true
end
mutual
noncomputable def dep : D → Nat
  | .tup l => deps l + 1
  | _ => 0
noncomputable def deps : List D → Nat
  | [] => 0
  | x :: xs => max (dep x) (deps xs)
end
noncomputable def eqL (xs ys : List D) : Option Bool := if deps xs ≤ 20 then (if xs.length = ys.length then peqs xs ys else some false) else none
@[simp] noncomputable def lstOf (h : Hd) : D → Option (List D)
  | .ref n => match h[n]? with | some (.lst l) => some l | _ => none
  | .lit l => some l
  | _ => none
@[simp] noncomputable def eqG (h : Hd) (x y : D) : Option Bool := match lstOf h x, lstOf h y with
  | some xs, some ys => eqL xs ys
  | none, none => if dep x ≤ 20 then peq x y else none
  | _, _ => none
@[simp] noncomputable def oEq : O2 := fun x y h => match eqG h x y with | some b => .ok (.bl b) h | none => .bad
@[simp] noncomputable def oNe : O2 := fun x y h => match eqG h x y with | some b => .ok (.bl (!b)) h | none => .bad
@[simp] noncomputable def asB (r : Res D) : Res Bool := r.bind fun x h => match x with | .bl b => .ok b h | _ => .bad
@[simp] noncomputable def tE (a : EF) : TF := fun σ h => asB (a σ h)
@[simp] noncomputable def tNot (t : TF) : TF := fun σ h => (t σ h).bind fun b h => .ok (!b) h
@[simp] noncomputable def tAnd (t u : TF) : TF := fun σ h => (t σ h).bind fun b h => if b then u σ h else .ok false h
@[simp] noncomputable def tOr (t u : TF) : TF := fun σ h => (t σ h).bind fun b h => if b then .ok true h else u σ h
@[simp] noncomputable def fT (t : TF) : EF := fun σ h => (t σ h).bind fun b h => .ok (.bl b) h
@[simp] noncomputable def fIf (t : TF) (a b : EF) : EF := fun σ h => (t σ h).bind fun c h => if c then a σ h else b σ h
@[simp] noncomputable def fChain (g k : O2) (a b c : EF) : EF := fun σ h => (a σ h).bind fun x h => (b σ h).bind fun y h => (g x y h).bind fun z h => match z with
  | .bl true => (c σ h).bind fun w h => k y w h
  | .bl false => .ok (.bl false) h
  | _ => .bad
@[simp] noncomputable def aNil : LF := fun _ h => .ok [] h
@[simp] noncomputable def aCons (a : EF) (r : LF) : LF := fun σ h => (a σ h).bind fun x h => (r σ h).bind fun xs h => .ok (x :: xs) h
@[simp] noncomputable def fTup (r : LF) : EF := fun σ h => (r σ h).bind fun xs h => if xs.length ≤ SZ then .ok (.tup xs) h else .bad
@[simp] noncomputable def fNew (r : LF) : EF := fun σ h => (r σ h).bind fun xs h => if xs.length ≤ SZ then .ok (.ref h.length) (h ++ [.lst xs]) else .bad
@[simp] noncomputable def seqOf (h : Hd) : D → Option (List D)
  | .tup l => some l
  | .lit l => some l
  | .ref n => match h[n]? with | some (.lst l) => some l | _ => none
  | _ => none
@[simp] noncomputable def lOf (a : EF) : LF := fun σ h => (a σ h).bind fun x h => match seqOf h x with | some l => .ok l h | none => .bad
noncomputable def ixN (n : Nat) (i : Int) : Option Nat := if 0 ≤ i then (if i < n then some i.toNat else none) else if -(n : Int) ≤ i then some (i + n).toNat else none
noncomputable def atI (xs : List D) (i : Int) : Option D := (ixN xs.length i).bind fun j => xs[j]?
@[simp] noncomputable def fIx (a : LF) (b : EF) : EF := fun σ h => (a σ h).bind fun l h => (b σ h).bind fun y h => match y with
  | .int i => match atI l i with | some d => .ok d h | none => .bad
  | _ => .bad
@[simp] noncomputable def oAt : O2 := fun x y h => match seqOf h x, y with
  | some l, .int i => match atI l i with | some d => .ok d h | none => .bad
  | _, _ => .bad
@[simp] noncomputable def fAt (a b : EF) : EF := fun σ h => fBin oAt a b σ h
@[simp] noncomputable def fLen (a : LF) : EF := fun σ h => (a σ h).bind fun l h => .ok (.int l.length) h
noncomputable def intsD : List D → Option (List Int)
  | [] => some []
  | .int i :: r => (intsD r).map (i :: ·)
  | _ => none
@[simp] noncomputable def fSum (a : LF) : EF := fun σ h => (a σ h).bind fun l h => match intsD l with | some is => .ok (.int is.sum) h | none => .bad
@[simp] noncomputable def fTupL (a : LF) : EF := fun σ h => (a σ h).bind fun l h => .ok (.tup l) h
@[simp] noncomputable def fInt (a : EF) : EF := fun σ h => (a σ h).bind fun x h => match x with | .int i => .ok (.int i) h | .bl b => .ok (.int (b2i b)) h | _ => .bad
inductive Ty where | int | bool | tuple | list | str
deriving DecidableEq
@[simp] noncomputable def isTy (h : Hd) (t : Ty) : D → Option Bool
  | .non => some false
  | .bl _ => some (t == .bool || t == .int)
  | .int _ => some (t == .int)
  | .str _ => some (t == .str)
  | .tup _ => some (t == .tuple)
  | .lit _ => some (t == .list)
  | .ref n => match h[n]? with | some (.lst _) => some (t == .list) | some (.dct _) => some false | none => none
  | .exn _ _ => some false
@[simp] noncomputable def fIsTy (t : Ty) (a : EF) : EF := fun σ h => (a σ h).bind fun x h => match isTy h t x with | some b => .ok (.bl b) h | none => .bad
noncomputable def sIx (n d : Nat) : Option Int → Nat
  | none => d
  | some i => if i < 0 then (i + n).toNat else min i.toNat n
noncomputable def cut (l : List D) (lo hi : Option Int) : List D := (l.drop (sIx l.length 0 lo)).take (sIx l.length l.length hi - sIx l.length 0 lo)
noncomputable abbrev OF := Sd → Hd → Res (Option Int)
@[simp] noncomputable def pNo : OF := fun _ h => .ok none h
@[simp] noncomputable def pAt (a : EF) : OF := fun σ h => (a σ h).bind fun x h => match x with | .int i => .ok (some i) h | _ => .bad
@[simp] noncomputable def fSlice (a : EF) (lo hi : OF) : EF := fun σ h => (a σ h).bind fun x h => (lo σ h).bind fun i h => (hi σ h).bind fun j h => match x with
  | .tup l => if sIx l.length 0 i = 0 ∧ sIx l.length l.length j = l.length then .bad else .ok (.tup (cut l i j)) h
  | x => match lstOf h x with | some l => .ok (.ref h.length) (h ++ [.lst (cut l i j)]) | none => .bad
noncomputable def lexLt : List Int → List Int → Bool
  | [], [] => false
  | [], _ :: _ => true
  | _ :: _, [] => false
  | x :: xs, y :: ys => if x = y then lexLt xs ys else decide (x < y)
noncomputable def rows : List D → Option (List (List Int))
  | [] => some []
  | .tup l :: r => match intsD l, rows r with | some a, some b => some (a :: b) | _, _ => none
  | _ => none
noncomputable def ascR : List (List Int) → Bool
  | a :: b :: r => !lexLt b a && ascR (b :: r)
  | _ => true
@[simp] noncomputable def sortedR (l : List D) : Option (List D) := match rows l with
  | some r => if l.length < 64 ∧ ascR r = true ∧ r.all (fun x => !x.isEmpty) = true then some l else none
  | none => none
@[simp] noncomputable def lSortR (a : EF) : LF := fun σ h => (a σ h).bind fun x h => match lstOf h x with
  | some l => match sortedR l with | some l => .ok l h | none => .bad
  | none => .bad
@[simp] noncomputable def fCall (F : Fn) (r : LF) : EF := fun σ h => (r σ h).bind fun xs h => F xs h
noncomputable abbrev IF := Sd → Hd → Res (List D × Option Nat)
@[simp] noncomputable def iNew (a : LF) : IF := fun σ h => (a σ h).bind fun l h => .ok (l, none) h
@[simp] noncomputable def iRange (a : EF) : IF := fun σ h => (a σ h).bind fun x h => match x with
  | .int n => if -1000000 ≤ n ∧ n ≤ 1000000 then .ok ((List.range n.toNat).map (fun k : Nat => .int k), none) h else .bad
  | _ => .bad
@[simp] noncomputable def iSeq (a : EF) : IF := fun σ h => (a σ h).bind fun x h => match x with
  | .tup l => .ok (l, none) h
  | .lit l => .ok (l, none) h
  | .ref n => match h[n]? with | some (.lst l) => .ok (l, some n) h | _ => .bad
  | _ => .bad
@[simp] noncomputable def iEnum (a : EF) : IF := fun σ h => (a σ h).bind fun x h => match x with
  | .tup l => .ok ((List.range l.length).zip l |>.map fun p => .tup [.int (p.1 : Nat), p.2], none) h
  | _ => .bad
noncomputable section
open Classical
noncomputable def held (g : Option Nat) (all : List D) (h : Hd) : Prop := match g with | none => True | some n => h[n]? = some (.lst all)
noncomputable abbrev GF := D → Sd → Option Sd
@[simp] noncomputable def gN (i : Nat) : GF := fun d σ => some (σ.set i (some d))
@[simp] noncomputable def gT (l : List Nat) : GF := fun d σ => match d with
  | .tup xs => if xs.length = l.length then some ((l.zip xs).foldl (fun σ p => σ.set p.1 (some p.2)) σ) else none
  | _ => none
@[simp] noncomputable def sSeq (a b : SF) : SF := fun σ h => match a σ h with | .nx σ h => b σ h | r => r
@[simp] noncomputable def sNil : SF := fun σ h => .nx σ h
@[simp] noncomputable def outE (r : Res D) (σ : Sd) (k : D → Hd → Out) : Out := match r with | .ok d h => k d h | .exc x h => .exc x σ h | .bad => .bad
@[simp] noncomputable def sSet (g : GF) (a : EF) : SF := fun σ h => outE (a σ h) σ fun d h => match g d σ with | some σ => .nx σ h | none => .bad
@[simp] noncomputable def sRet (a : EF) : SF := fun σ h => outE (a σ h) σ fun d h => .rt d h
@[simp] noncomputable def sExp (a : EF) : SF := fun σ h => outE (a σ h) σ fun _ h => .nx σ h
@[simp] noncomputable def sIf (t : TF) (a b : SF) : SF := fun σ h => match t σ h with | .ok c h => if c then a σ h else b σ h | .exc x h => .exc x σ h | .bad => .bad
noncomputable def sBad : SF := fun _ _ => .bad
@[simp] noncomputable def sAug (i : Nat) (g : O2) (a : EF) : SF := fun σ h => match slot σ i with
  | some x => outE (a σ h) σ fun y h => outE (g x y h) σ fun z h => .nx (σ.set i (some z)) h
  | none => .bad
@[simp] noncomputable def sPut (x i e : EF) : SF := fun σ h => outE (e σ h) σ fun d h => outE (x σ h) σ fun p h => outE (i σ h) σ fun j h => match p, j with
  | .ref n, .int j => match h[n]? with
    | some (.lst l) => match ixN l.length j with
      | some k => .nx σ (h.set n (.lst (l.set k d)))
      | none => .bad
    | _ => .bad
  | _, _ => .bad
@[simp] noncomputable def oApp : O2 := fun p d h => match p with
  | .ref n => match h[n]? with
    | some (.lst l) => if l.length < SZ then .ok .non (h.set n (.lst (l ++ [d]))) else .bad
    | _ => .bad
  | _ => .bad
@[simp] noncomputable def fApp (x e : EF) : EF := fun σ h => (x σ h).bind fun p h => match p with
  | .ref n => match h[n]? with
    | some (.lst _) => (e σ h).bind fun d h => oApp (.ref n) d h
    | _ => .bad
  | _ => .bad
@[simp] noncomputable def uClear : D → Hd → Res D := fun p h => match p with
  | .ref n => match h[n]? with
    | some (.lst _) => .ok .non (h.set n (.lst []))
    | _ => .bad
  | _ => .bad
@[simp] noncomputable def fClear (x : EF) : EF := fun σ h => fUn uClear x σ h
noncomputable def forL (g : Option Nat) (all : List D) (tg : GF) (b : SF) : List D → SF
  | [], σ, h => if held g all h then .nx σ h else .bad
  | x :: xs, σ, h => if held g all h then match tg x σ with
      | some σ => match b σ h with
        | .nx σ h => forL g all tg b xs σ h
        | .ct σ h => forL g all tg b xs σ h
        | .bk σ h => .nx σ h
        | r => r
      | none => .bad
    else .bad
@[simp] noncomputable def sFor (it : IF) (tg : GF) (b : SF) : SF := fun σ h => match it σ h with
  | .ok (l, g) h => forL g l tg b l σ h
  | .exc x h => .exc x σ h
  | .bad => .bad
noncomputable def whileN (t : TF) (b : SF) : Nat → SF
  | 0, _, _ => .bad
  | n + 1, σ, h => match t σ h with
    | .ok true h => match b σ h with
      | .nx σ h => whileN t b n σ h
      | .ct σ h => whileN t b n σ h
      | .bk σ h => .nx σ h
      | r => r
    | .ok false h => .nx σ h
    | .exc x h => .exc x σ h
    | .bad => .bad
noncomputable def fuel (t : TF) (b : SF) : Sd → Hd → Nat := fun σ h => if ex : ∃ n, whileN t b n σ h ≠ .bad then Classical.choose ex else 0
noncomputable def sWhile (t : TF) (b : SF) : SF := fun σ h => whileN t b (fuel t b σ h) σ h
@[simp] noncomputable def tests : List TF → TF
  | [], _, h => .ok true h
  | t :: r, σ, h => (t σ h).bind fun b h => if b then tests r σ h else .ok false h
noncomputable def compL (g : Option Nat) (all : List D) (tg : GF) (cs : List TF) (e : EF) : List D → Sd → Hd → Res (List D)
  | [], _, h => if held g all h then .ok [] h else .bad
  | x :: xs, σ, h => if held g all h then match tg x σ with
      | some σ => (tests cs σ h).bind fun b h => if b then (e σ h).bind fun d h => (compL g all tg cs e xs σ h).bind fun ds h => .ok (d :: ds) h
        else compL g all tg cs e xs σ h
      | none => .bad
    else .bad
@[simp] noncomputable def caught (nl : Nat) (caps : List Nat) (σ : Sd) : Sd := List.replicate nl none ++ caps.map fun i => slot σ i
@[simp] noncomputable def lComp (nl : Nat) (caps : List Nat) (it : IF) (tg : GF) (cs : List TF) (e : EF) : LF := fun σ h => (it σ h).bind fun p h =>
  compL p.2 p.1 tg cs e p.1 (caught nl caps σ) h
mutual
noncomputable def pure? : D → Bool
  | .ref _ => false
  | .tup l => pures l
  | .lit l => pures l
  | .exn _ l => pures l
  | _ => true
noncomputable def pures : List D → Bool
  | [] => true
  | x :: xs => pure? x && pures xs
end
noncomputable def cellPure : Cell → Bool
  | .lst l => pures l
  | .dct l => l.all fun p => pure? p.2
noncomputable def oldOk (h h' : Hd) : Prop := ∀ n c, n < h.length → h'[n]? = some c → h[n]? = some c ∨ cellPure c = true
noncomputable def letGo (h : Hd) (r : Res D) : Res D := match r with
  | .ok d h' => if pure? d = true ∧ oldOk h h' then .ok d (h'.take h.length) else .ok d h'
  | r => r
noncomputable def runB (n : Nat) (b : SF) : Fn := fun ds h => match b (ds.map some ++ List.replicate (n - ds.length) none) h with
  | .nx _ h => .ok .non h
  | .rt d h => .ok d h
  | .exc x _ h => .exc x h
  | _ => .bad
noncomputable def mkFn (np n : Nat) (b : SF) : Fn := fun ds h => if ds.length = np then letGo h (runB n b ds h) else .bad
end
end Fm
set_option Elab.async false
set_option linter.all false
set_option maxRecDepth 100000
namespace Fm
open PySem PySem.Spec L2
noncomputable def toS (x : List Nat) : Str := ⟨x.toArray⟩
noncomputable def LitAt (K : PySem.W.Frag) (H : Hp) (a : Addr) (xs : List V) : Prop :=
  (∃ o, H a = some (.frz o (.lst xs))) ∨
    ∃ (o : Obj) (its : Array Value) (n : Nat), K.lookup a = some o ∧ o.cls = .type "list" ∧ o.dict = none ∧ o.data = .seq its n ∧ its.size ≤ sizeLine ∧ Vals xs its.toList
section
variable (K : PySem.W.Frag) (ρ : List Addr) (H : Hp)
mutual
noncomputable def RD : D → V → Prop
  | .non, v => v = .non
  | .bl b, v => v = .bl b
  | .int i, v => v = .int i
  | .str x, v => v = .str (toS x)
  | .tup l, v => ∃ p vs, v = .ref p ∧ H p = some (.tup vs) ∧ RDs l vs
  | .lit l, v => ∃ p vs, v = .ref p ∧ LitAt K H p vs ∧ RDs l vs
  | .ref n, v => ∃ a, ρ[n]? = some a ∧ v = .ref a
  | .exn _ _, _ => False
noncomputable def RDs : List D → List V → Prop
  | [], vs => vs = []
  | d :: ds, vs => ∃ v r, vs = v :: r ∧ RD d v ∧ RDs ds r
end
noncomputable def RC : Cell → Addr → Prop
  | .lst l, a => ∃ vs, H a = some (.lst vs) ∧ RDs K ρ H l vs
  | .dct l, a => ∃ kvs, H a = some (.dK kvs) ∧ kvs.map (·.1) = l.map (fun p => (Sum.inl p.1 : Key)) ∧ RDs K ρ H (l.map (·.2)) (kvs.map (·.2))
structure RH (hd : Hd) : Prop where
  len : ρ.length = hd.length
  nd : ρ.Nodup
  cel : ∀ (n : Nat) c a, hd[n]? = some c → ρ[n]? = some a → RC K ρ H c a
structure RSt (σd : Sd) (σ : St) : Prop where
  len : σd.length = σ.length
  at' : ∀ i d, slot σd i = some d → ∃ v, σ[i]? = some (some v) ∧ RD K ρ H d v
structure RS (σd : Sd) (hd : Hd) (σ : St) : Prop where
  hp : RH K ρ H hd
  st : RSt K ρ H σd σ
end
structure Ext (ρ : List Addr) (H : Hp) (ρ' : List Addr) (H' : Hp) : Prop where
  pre : ∃ t, ρ' = ρ ++ t
  new : ∀ a ∈ ρ', a ∈ ρ ∨ H a = none
  frame : ∀ p o, H p = some o → p ∉ ρ → H' p = some o
section
variable {K : PySem.W.Frag} {ρ ρ' ρ'' : List Addr} {H H' H'' : Hp} {hd hd' : Hd} {σd σd' : Sd} {σ σ' : St}
theorem Ext.refl : Ext ρ H ρ H := ⟨⟨[], by simp⟩, fun _ h => .inl h, fun _ _ h _ => h⟩
theorem Ext.out (e : Ext ρ H ρ' H') {p : Addr} {o : HO} (h : H p = some o) (n : p ∉ ρ) : p ∉ ρ' := fun z => by
  rcases e.new p z with q | q
  · exact n q
  · rw [h] at q; cases q
theorem Ext.trans (a : Ext ρ H ρ' H') (b : Ext ρ' H' ρ'' H'') : Ext ρ H ρ'' H'' where
  pre := by
    obtain ⟨t, rfl⟩ := a.pre
    obtain ⟨u, rfl⟩ := b.pre
    exact ⟨t ++ u, by simp⟩
  new := fun x hx => by
    rcases b.new x hx with q | q
    · exact a.new x q
    · cases e : H x with
      | none => exact .inr rfl
      | some o =>
        by_cases hn : x ∈ ρ
        · exact .inl hn
        · rw [a.frame x o e hn] at q; cases q
  frame := fun p o h n => b.frame p o (a.frame p o h n) (a.out h n)
theorem Ext.same (s : Same H H') : Ext ρ H ρ H' := ⟨⟨[], by simp⟩, fun _ h => .inl h, fun p o h _ => s p o h⟩
theorem Ext.get (e : Ext ρ H ρ' H') {n : Nat} {a : Addr} (h : ρ[n]? = some a) : ρ'[n]? = some a := by
  obtain ⟨t, rfl⟩ := e.pre
  rw [List.getElem?_append_left (List.getElem?_eq_some_iff.mp h).1]
  exact h
theorem RH.mut (r : RH K ρ H hd) {a : Addr} (h : a ∈ ρ) : (∃ vs, H a = some (.lst vs)) ∨ ∃ kvs, H a = some (.dK kvs) := by
  obtain ⟨n, hn⟩ := List.getElem?_of_mem h
  have hl := (List.getElem?_eq_some_iff.mp hn).1
  have hc : hd[n]? = some (hd[n]'(by rw [← r.len]; exact hl)) := by simp
  have q := r.cel n _ a hc hn
  cases e : hd[n]'(by rw [← r.len]; exact hl) with
  | lst l => rw [e] at q; obtain ⟨vs, h1, _⟩ := q; exact .inl ⟨vs, h1⟩
  | dct l => rw [e] at q; obtain ⟨vs, h1, _⟩ := q; exact .inr ⟨vs, h1⟩
theorem RH.noTup (r : RH K ρ H hd) {a : Addr} {vs : List V} (h : H a = some (.tup vs)) : a ∉ ρ := fun z => by
  rcases r.mut z with ⟨_, q⟩ | ⟨_, q⟩ <;> (rw [h] at q; cases q)
theorem RH.noFrz (r : RH K ρ H hd) {a : Addr} {o : Obj} {u : HO} (h : H a = some (.frz o u)) : a ∉ ρ := fun z => by
  rcases r.mut z with ⟨_, q⟩ | ⟨_, q⟩ <;> (rw [h] at q; cases q)
structure Kp (ρ : List Addr) (H : Hp) (ρ' : List Addr) (H' : Hp) : Prop where
  get : ∀ (n : Nat) a, ρ[n]? = some a → ρ'[n]? = some a
  tup : ∀ a vs, H a = some (.tup vs) → H' a = some (.tup vs)
  frz : ∀ a o u, H a = some (.frz o u) → H' a = some (.frz o u)
theorem RH.kp (r : RH K ρ H hd) (e : Ext ρ H ρ' H') : Kp ρ H ρ' H' :=
  ⟨fun _ _ h => e.get h, fun _ _ h => e.frame _ _ h (r.noTup h), fun _ _ _ h => e.frame _ _ h (r.noFrz h)⟩
theorem Kp.same (s : Same H H') : Kp ρ H ρ H' := ⟨fun _ _ h => h, fun _ _ h => s _ _ h, fun _ _ _ h => s _ _ h⟩
theorem LitAt.mono {a : Addr} {xs : List V} (k : Kp ρ H ρ' H') (h : LitAt K H a xs) : LitAt K H' a xs := by
  rcases h with ⟨o, h⟩ | h
  · exact .inl ⟨o, k.frz _ _ _ h⟩
  · exact .inr h
mutual
theorem RD.mono (k : Kp ρ H ρ' H') : ∀ {d : D} {v : V}, RD K ρ H d v → RD K ρ' H' d v
  | .non, _, h => by simp only [RD] at h ⊢; exact h
  | .bl _, _, h => by simp only [RD] at h ⊢; exact h
  | .int _, _, h => by simp only [RD] at h ⊢; exact h
  | .str _, _, h => by simp only [RD] at h ⊢; exact h
  | .tup l, _, h => by
    simp only [RD] at h ⊢
    obtain ⟨p, vs, e, h1, h2⟩ := h
    exact ⟨p, vs, e, k.tup _ _ h1, RDs.mono k h2⟩
  | .lit l, _, h => by
    simp only [RD] at h ⊢
    obtain ⟨p, vs, e, h1, h2⟩ := h
    exact ⟨p, vs, e, h1.mono k, RDs.mono k h2⟩
  | .ref n, _, h => by
    simp only [RD] at h ⊢
    obtain ⟨a, h1, h2⟩ := h
    exact ⟨a, k.get _ _ h1, h2⟩
  | .exn _ _, _, h => by simp only [RD] at h
theorem RDs.mono (k : Kp ρ H ρ' H') : ∀ {l : List D} {vs : List V}, RDs K ρ H l vs → RDs K ρ' H' l vs
  | [], _, h => by simp only [RDs] at h ⊢; exact h
  | d :: ds, _, h => by
    simp only [RDs] at h ⊢
    obtain ⟨v, r, e, h1, h2⟩ := h
    exact ⟨v, r, e, RD.mono k h1, RDs.mono k h2⟩
end
theorem RDs.nil : RDs K ρ H [] [] := by simp only [RDs]
theorem RDs.cons {d : D} {v : V} {ds : List D} {vs : List V} (h : RD K ρ H d v) (t : RDs K ρ H ds vs) : RDs K ρ H (d :: ds) (v :: vs) := by
  simp only [RDs]; exact ⟨v, vs, rfl, h, t⟩
theorem RDs.length : ∀ {l : List D} {vs : List V}, RDs K ρ H l vs → l.length = vs.length
  | [], _, h => by simp only [RDs] at h; subst h; rfl
  | d :: ds, _, h => by
    simp only [RDs] at h
    obtain ⟨v, r, e, h1, h2⟩ := h
    subst e
    simp [RDs.length h2]
theorem RDs.get : ∀ {l : List D} {vs : List V} {i : Nat} {d : D}, RDs K ρ H l vs → l[i]? = some d → ∃ v, vs[i]? = some v ∧ RD K ρ H d v
  | [], _, i, _, _, e => by simp at e
  | d :: ds, _, 0, _, h, e => by
    simp only [RDs] at h
    obtain ⟨v, r, e', h1, h2⟩ := h
    subst e'
    simp at e
    subst e
    exact ⟨v, rfl, h1⟩
  | d :: ds, _, i + 1, x, h, e => by
    simp only [RDs] at h
    obtain ⟨v, r, e', h1, h2⟩ := h
    subst e'
    obtain ⟨w, hw, q⟩ := RDs.get (i := i) (d := x) h2 (by simpa using e)
    exact ⟨w, by simpa using hw, q⟩
theorem RDs.set {d : D} {v : V} (h : RD K ρ H d v) : ∀ {l : List D} {vs : List V} (i : Nat), RDs K ρ H l vs → RDs K ρ H (l.set i d) (vs.set i v)
  | [], _, _, q => by simp only [RDs] at q; subst q; exact RDs.nil
  | x :: xs, _, i, q => by
    simp only [RDs] at q
    obtain ⟨w, r, e, h1, h2⟩ := q
    subst e
    cases i with
    | zero => exact RDs.cons h h2
    | succ i => exact RDs.cons h1 (RDs.set h i h2)
theorem RDs.append : ∀ {l l' : List D} {vs vs' : List V}, RDs K ρ H l vs → RDs K ρ H l' vs' → RDs K ρ H (l ++ l') (vs ++ vs')
  | [], _, _, _, h, q => by simp only [RDs] at h; subst h; exact q
  | d :: ds, _, _, _, h, q => by
    simp only [RDs] at h
    obtain ⟨v, r, e, h1, h2⟩ := h
    subst e
    exact RDs.cons h1 (RDs.append h2 q)
theorem RDs.take : ∀ {l : List D} {vs : List V} (n : Nat), RDs K ρ H l vs → RDs K ρ H (l.take n) (vs.take n)
  | _, _, 0, _ => by simp; exact RDs.nil
  | [], _, n + 1, h => by simp only [RDs] at h; subst h; exact RDs.nil
  | d :: ds, _, n + 1, h => by
    simp only [RDs] at h
    obtain ⟨v, r, e, h1, h2⟩ := h
    subst e
    exact RDs.cons h1 (RDs.take n h2)
theorem RDs.drop : ∀ {l : List D} {vs : List V} (n : Nat), RDs K ρ H l vs → RDs K ρ H (l.drop n) (vs.drop n)
  | _, _, 0, h => by simpa using h
  | [], _, n + 1, h => by simp only [RDs] at h; subst h; exact RDs.nil
  | d :: ds, _, n + 1, h => by
    simp only [RDs] at h
    obtain ⟨v, r, e, h1, h2⟩ := h
    subst e
    simpa using RDs.drop n h2
theorem RC.mono {c : Cell} {a : Addr} (k : Kp ρ H ρ' H') (e : H' a = H a) (h : RC K ρ H c a) : RC K ρ' H' c a := by
  cases c with
  | lst l => obtain ⟨vs, h1, h2⟩ := h; exact ⟨vs, e.trans h1, h2.mono k⟩
  | dct l => obtain ⟨vs, h1, h2, h3⟩ := h; exact ⟨vs, e.trans h1, h2, h3.mono k⟩
theorem RH.same (r : RH K ρ H hd) (s : Same H H') : RH K ρ H' hd :=
  ⟨r.len, r.nd, fun n c a h1 h2 => (r.cel n c a h1 h2).mono (Kp.same s) (by
    rcases r.mut (List.mem_of_getElem? h2) with ⟨_, q⟩ | ⟨_, q⟩ <;> rw [q, s _ _ q])⟩
theorem RSt.mono (k : Kp ρ H ρ' H') (r : RSt K ρ H σd σ) : RSt K ρ' H' σd σ :=
  ⟨r.len, fun i d h => let ⟨v, h1, h2⟩ := r.at' i d h; ⟨v, h1, h2.mono k⟩⟩
theorem RS.same (r : RS K ρ H σd hd σ) (s : Same H H') : RS K ρ H' σd hd σ := ⟨r.hp.same s, r.st.mono (Kp.same s)⟩
theorem same_upd {p : Addr} {o : HO} (h : H p = none) : Same H (upd H p o) := fun b u e => by
  rw [upd_ne (ne_of_none e h)]; exact e
theorem RH.alloc (r : RH K ρ H hd) {p : Addr} {l : List D} {vs : List V} (hp : H p = some (.lst vs)) (hn : p ∉ ρ) (h : RDs K ρ H l vs) : RH K (ρ ++ [p]) H (hd ++ [.lst l]) := by
  have k : Kp ρ H (ρ ++ [p]) H := ⟨fun n a e => by rw [List.getElem?_append_left (List.getElem?_eq_some_iff.mp e).1]; exact e, fun _ _ h => h, fun _ _ _ h => h⟩
  refine ⟨by simp [r.len], ?_, fun n c a h1 h2 => ?_⟩
  · rw [List.nodup_append]
    exact ⟨r.nd, by simp, fun a ha b hb => by simp at hb; subst hb; intro e; subst e; exact hn ha⟩
  · by_cases hlt : n < hd.length
    · rw [List.getElem?_append_left hlt] at h1
      rw [List.getElem?_append_left (by rw [r.len]; exact hlt)] at h2
      exact (r.cel n c a h1 h2).mono k rfl
    · have e1 : n = hd.length := by
        have := (List.getElem?_eq_some_iff.mp h1).1
        simp at this
        omega
      subst e1
      simp at h1
      subst h1
      rw [← r.len] at h2
      simp at h2
      subst h2
      exact ⟨vs, hp, h.mono k⟩
theorem nodup_at {α : Type} : ∀ {l : List α}, l.Nodup → ∀ {i j : Nat} {x : α}, l[i]? = some x → l[j]? = some x → i = j
  | [], _, i, _, _, e, _ => by simp at e
  | a :: l, nd, 0, 0, _, _, _ => rfl
  | a :: l, nd, 0, j + 1, x, e, e' => by
    simp at e e'
    subst e
    exact absurd (List.mem_of_getElem? e') (List.nodup_cons.mp nd).1
  | a :: l, nd, i + 1, 0, x, e, e' => by
    simp at e e'
    subst e'
    exact absurd (List.mem_of_getElem? e) (List.nodup_cons.mp nd).1
  | a :: l, nd, i + 1, j + 1, x, e, e' => by
    simp at e e'
    rw [nodup_at (List.nodup_cons.mp nd).2 e e']
theorem RH.write (r : RH K ρ H hd) {n : Nat} {p : Addr} {l : List D} {vs : List V} (hp : ρ[n]? = some p) (hn : n < hd.length) (h : RDs K ρ H l vs) : RH K ρ (upd H p (.lst vs)) (hd.set n (.lst l)) := by
  have k : Kp ρ H ρ (upd H p (.lst vs)) := by
    have hm := List.mem_of_getElem? hp
    refine ⟨fun _ _ h => h, fun a us e => ?_, fun a o u e => ?_⟩
    · rw [upd_ne (fun z => r.noTup e (by rw [z]; exact hm))]; exact e
    · rw [upd_ne (fun z => r.noFrz e (by rw [z]; exact hm))]; exact e
  refine ⟨by simp [r.len], r.nd, fun m c a h1 h2 => ?_⟩
  by_cases e : n = m
  · subst e
    rw [List.getElem?_set_self hn] at h1
    cases h1
    rw [hp] at h2
    cases h2
    exact ⟨vs, upd_same, h.mono k⟩
  · rw [List.getElem?_set_ne e] at h1
    have ne : a ≠ p := fun z => by
      subst z
      exact e (nodup_at r.nd hp h2)
    exact (r.cel m c a h1 h2).mono k (upd_ne ne)
theorem Ext.write {p : Addr} {o : HO} (hp : p ∈ ρ) : Ext ρ H ρ (upd H p o) :=
  ⟨⟨[], by simp⟩, fun _ h => .inl h, fun q u e n => by rw [upd_ne (fun z => n (by rw [z]; exact hp))]; exact e⟩
theorem Ext.alloc {p : Addr} (h : H p = none) {o : HO} : Ext ρ H (ρ ++ [p]) (upd H p o) :=
  ⟨⟨[p], rfl⟩, fun a ha => by
    rcases List.mem_append.mp ha with q | q
    · exact .inl q
    · simp at q; subst q; exact .inr h, fun q u e _ => same_upd h q u e⟩
theorem RS.ext (r : RS K ρ H σd hd σ) (e : Ext ρ H ρ' H') (h : RH K ρ' H' hd') : RS K ρ' H' σd hd' σ := ⟨h, r.st.mono (r.hp.kp e)⟩
end
end Fm
set_option Elab.async false
set_option linter.all false
set_option maxRecDepth 100000
namespace Fm
open PySem PySem.Spec L2
noncomputable abbrev VR (α β : Type) := List Addr → Hp → α → β → Prop
section
variable (K : PySem.W.Frag)
noncomputable def Post {α β : Type} (R : VR α β) (ρ : List Addr) (H : Hp) (σd : Sd) (σ : St) (r : Res α) (Q : β → Hp → Prop) : Prop := match r with
  | .ok a hd' => ∀ b H' ρ', Ext ρ H ρ' H' → RS K ρ' H' σd hd' σ → R ρ' H' a b → Q b H'
  | _ => False
noncomputable def lift {α β : Type} (R : VR α β) (f : Sd → Hd → Res α) : St → Hp → (β → Hp → Prop) → Prop := fun σ H Q =>
  ∃ ρ σd hd, RS K ρ H σd hd σ ∧ Post K R ρ H σd σ (f σd hd) Q
noncomputable abbrev rD : VR D V := fun ρ H d v => RD K ρ H d v
noncomputable abbrev rDs : VR (List D) (List V) := fun ρ H d v => RDs K ρ H d v
noncomputable abbrev rB : VR Bool Bool := fun _ _ a b => a = b
noncomputable abbrev rO : VR (Option Int) (Option Int) := fun _ _ a b => a = b
noncomputable def rQ : VR (List D) V := fun ρ H l v => ∃ p vs, v = .ref p ∧ (SqL K H p vs ∨ H p = some (.tup vs)) ∧ RDs K ρ H l vs
noncomputable def PostF (ρ : List Addr) (H : Hp) (σd : Sd) (σ : St) (r : Res (List D)) (Q : VK) : Prop := match r with
  | .ok l hd' => ∀ q vs H' ρ', Ext ρ H ρ' H' → RS K ρ' H' σd hd' σ → H q = none → H' q = some (.lst vs) → q ∉ ρ' → RDs K ρ' H' l vs → Q (.ref q) H'
  | _ => False
noncomputable def liftF (f : LF) : TE := fun σ H Q => ∃ ρ σd hd, RS K ρ H σd hd σ ∧ PostF K ρ H σd σ (f σd hd) Q
noncomputable def PostS (ρ : List Addr) (H : Hp) (o : Out) (E : Ends) : Prop := match o with
  | .nx σd hd => ∀ σ H' ρ', Ext ρ H ρ' H' → RS K ρ' H' σd hd σ → E.nx σ H'
  | .bk σd hd => ∀ σ H' ρ', Ext ρ H ρ' H' → RS K ρ' H' σd hd σ → E.bk σ H'
  | .ct σd hd => ∀ σ H' ρ', Ext ρ H ρ' H' → RS K ρ' H' σd hd σ → E.ct σ H'
  | .rt d hd => ∀ v H' ρ', Ext ρ H ρ' H' → RH K ρ' H' hd → RD K ρ' H' d v → E.rt v H'
  | _ => False
noncomputable def liftS (f : SF) : TS := fun E σ H => ∃ ρ σd hd, RS K ρ H σd hd σ ∧ PostS K ρ H (f σd hd) E
end
noncomputable def ME (X : Cx) (e : Expr) (f : EF) : Prop := PE X e (lift X.K (rD X.K) f)
noncomputable def MQ (X : Cx) (e : Expr) (f : LF) : Prop := PE X e (lift X.K (rQ X.K) f)
noncomputable def MF (X : Cx) (e : Expr) (f : LF) : Prop := PE X e (liftF X.K f)
noncomputable def MT (X : Cx) (e : Expr) (f : TF) : Prop := PT X e (lift X.K rB f)
noncomputable def MW (X : Cx) (e : Expr) (f : TF) : Prop := PW X e (lift X.K rB f)
noncomputable def MA (X : Cx) (es : List Expr) (f : LF) : Prop := PA X es (lift X.K (rDs X.K) f)
noncomputable def MS (X : Cx) (s : Stmt) (f : SF) : Prop := PS X s (liftS X.K f)
noncomputable def MSs (X : Cx) (s : List Stmt) (f : SF) : Prop := PSs X s (liftS X.K f)
section
variable {X : Cx}
theorem PE.imp {e : Expr} {t u : TE} (h : PE X e t) (i : ∀ σ H Q, u σ H Q → t σ H Q) : PE X e u := fun pins s σ H Q I q => h pins s σ H Q I (i σ H Q q)
theorem PT.imp {e : Expr} {t u : TT} (h : PT X e t) (i : ∀ σ H Q, u σ H Q → t σ H Q) : PT X e u := fun pins s σ H Q I q => h pins s σ H Q I (i σ H Q q)
theorem PW.imp {e : Expr} {t u : TT} (h : PW X e t) (i : ∀ σ H Q, u σ H Q → t σ H Q) : PW X e u := fun w pins s σ H Q I q => h w pins s σ H Q I (i σ H Q q)
theorem PA.imp {e : List Expr} {t u : TA} (h : PA X e t) (i : ∀ σ H Q, u σ H Q → t σ H Q) : PA X e u := fun p pins s σ H Q I q => h p pins s σ H Q I (i σ H Q q)
theorem PS.imp {e : Stmt} {t u : TS} (h : PS X e t) (i : ∀ D σ H, u D σ H → t D σ H) : PS X e u := fun pins s σ H D I q => h pins s σ H D I (i D σ H q)
theorem PSs.imp {e : List Stmt} {t u : TS} (h : PSs X e t) (i : ∀ D σ H, u D σ H → t D σ H) : PSs X e u := fun pins s σ H D I q => h pins s σ H D I (i D σ H q)
end
section
variable {K : PySem.W.Frag} {ρ ρ' : List Addr} {H H' : Hp} {hd hd' : Hd} {σd : Sd} {σ : St} {α β α' β' : Type} {R : VR α β} {R' : VR α' β'}
theorem Post.here {a : α} {b : β} {Q : β → Hp → Prop} (h : Post K R ρ H σd σ (.ok a hd) Q) (r : RS K ρ H σd hd σ) (q : R ρ H a b) : Q b H := h b H ρ Ext.refl r q
theorem Post.at {a : α} {b : β} {Q : β → Hp → Prop} (h : Post K R ρ H σd σ (.ok a hd) Q) (e : Ext ρ H ρ' H') (r : RS K ρ' H' σd hd σ) (q : R ρ' H' a b) : Q b H' := h b H' ρ' e r q
theorem Post.imp {r : Res α} {Q Q' : β → Hp → Prop} (h : Post K R ρ H σd σ r Q) (i : ∀ b H', Q b H' → Q' b H') : Post K R ρ H σd σ r Q' := by
  cases r with
  | ok a h' => exact fun b H' ρ' e s q => i b H' (h b H' ρ' e s q)
  | exc x h' => exact h
  | bad => exact h
theorem Post.ext {r : Res α} {Q : β → Hp → Prop} (e : Ext ρ H ρ' H') (h : Post K R ρ H σd σ r Q) : Post K R ρ' H' σd σ r Q := by
  cases r with
  | ok a h' => exact fun b H'' ρ'' e' s q => h b H'' ρ'' (e.trans e') s q
  | exc x h' => exact h
  | bad => exact h
theorem Post.bind {r : Res α} {k : α → Hd → Res α'} {Q : β' → Hp → Prop} (h : Post K R' ρ H σd σ (r.bind k) Q) :
    Post K R ρ H σd σ r (fun b H' => ∃ ρ' a hd', Ext ρ H ρ' H' ∧ RS K ρ' H' σd hd' σ ∧ R ρ' H' a b ∧ Post K R' ρ' H' σd σ (k a hd') Q) := by
  cases r with
  | ok a h' => exact fun b H' ρ' e s q => ⟨ρ', a, h', e, s, q, Post.ext e h⟩
  | exc x h' => exact h
  | bad => exact h
theorem PostS.ext {o : Out} {E : Ends} (e : Ext ρ H ρ' H') (h : PostS K ρ H o E) : PostS K ρ' H' o E := by
  cases o with
  | nx σ h' => exact fun σ' H'' ρ'' e' s => h σ' H'' ρ'' (e.trans e') s
  | bk σ h' => exact fun σ' H'' ρ'' e' s => h σ' H'' ρ'' (e.trans e') s
  | ct σ h' => exact fun σ' H'' ρ'' e' s => h σ' H'' ρ'' (e.trans e') s
  | rt d h' => exact fun v H'' ρ'' e' s q => h v H'' ρ'' (e.trans e') s q
  | exc x σ h' => exact h
  | bad => exact h
end
section
variable {X : Cx} {pos : Pos}
theorem me_var {i : Nat} {x : Str} (hN : X.N[i]? = some x) (hv : Vis X.env.scope x) (hd : (x == ("__debug__" : Str)) = false := by decide) (hcd : (x == ("__classdict__" : Str)) = false := by decide) : ME X (.Name x pos) (fVar i) := by
  refine PE.imp (pe_var hN hv hd hcd) fun σ H Q zq8 => ?_
  obtain ⟨ρ, σd, hd, r, h⟩ := zq8
  refine ?_
  unfold fVar at h
  cases e : slot σd i with
  | none => rw [e] at h; exact h.elim
  | some d =>
    rw [e] at h
    obtain ⟨v, h1, h2⟩ := r.st.at' i d e
    exact ⟨v, h1, h.here r h2⟩
theorem lift_C {K : PySem.W.Frag} {d : D} {v : V} (hv : ∀ ρ H, RD K ρ H d v) : ∀ σ H Q, lift K (rD K) (fC d) σ H Q → tC v σ H Q := fun _ H _ ⟨ρ, _, _, r, h⟩ => h.here r (hv ρ H)
theorem me_int {i : Int} {j} : ME X (.Constant (.int i) j pos) (fC (.int i)) := PE.imp pe_int (lift_C fun _ _ => by simp only [RD])
theorem me_bl {b j} : ME X (.Constant (.bool b) j pos) (fC (.bl b)) := PE.imp pe_bl (lift_C fun _ _ => by simp only [RD])
theorem me_non {j} : ME X (.Constant .none j pos) (fC .non) := PE.imp pe_non (lift_C fun _ _ => by simp only [RD])
theorem me_str {x : Str} {j} (l : List Nat) (h : x = toS l) : ME X (.Constant (.str x) j pos) (fC (.str l)) := PE.imp pe_str (lift_C fun _ _ => by simp only [RD]; rw [h])
theorem me_globI {x : Str} {i : Int} {t : Tok} (hg : Gl X x) (hm : X.mg x = some (.int i t)) (hd : (x == ("__debug__" : Str)) = false := by decide) : ME X (.Name x pos) (fC (.int i)) :=
  PE.imp (pe_glob (v := .int i) hg hm ⟨t, rfl⟩ hd) (lift_C fun _ _ => by simp only [RD])
theorem me2 {a b : Expr} {fa fb : EF} {r : R2} {g : O2} {e : Expr} (h : PE X e (tOp r (lift X.K (rD X.K) fa) (lift X.K (rD X.K) fb)))
    (hg : ∀ ρ H σd hd σ d k v w Q, RS X.K ρ H σd hd σ → RD X.K ρ H d v → RD X.K ρ H k w → Post X.K (rD X.K) ρ H σd σ (g d k hd) Q → r v w H Q) : ME X e (fBin g fa fb) := by
  refine PE.imp h fun σ H Q zq9 => ?_
  obtain ⟨ρ, σd, hd, rs, p⟩ := zq9
  refine ?_
  refine ⟨ρ, σd, hd, rs, ?_⟩
  refine (Post.bind (R := rD X.K) p).imp fun v H1 zq10 => ?_
  obtain ⟨ρ1, d, hd1, e1, rs1, rv, p1⟩ := zq10
  refine ?_
  refine ⟨ρ1, σd, hd1, rs1, ?_⟩
  refine (Post.bind (R := rD X.K) p1).imp fun w H2 zq11 => ?_
  obtain ⟨ρ2, k, hd2, e2, rs2, rw', p2⟩ := zq11
  refine ?_
  exact hg ρ2 H2 σd hd2 σ d k v w Q rs2 (rv.mono (rs1.hp.kp e2)) rw' p2
noncomputable def Og (K : PySem.W.Frag) (g : O2) (r : R2) : Prop := ∀ ρ H σd hd σ d k v w Q, RS K ρ H σd hd σ → RD K ρ H d v → RD K ρ H k w → Post K (rD K) ρ H σd σ (g d k hd) Q → r v w H Q
theorem me_op {a b : Expr} {fa fb : EF} {op : Operator} {r : R2} {g : O2} (ho : OpR X (binaryOp op) r) (hg : Og X.K g r) (ha : ME X a fa) (hb : ME X b fb) : ME X (.BinOp a op b pos) (fBin g fa fb) :=
  me2 (a := a) (b := b) (pe_op ho ha hb) hg
theorem me_cmp {a b : Expr} {fa fb : EF} {op : CmpOp} {r : R2} {g : O2} (ho : OpR X (compareOp op) r) (hg : Og X.K g r) (ha : ME X a fa) (hb : ME X b fb) (hm : behindInMarks op b = false) : ME X (.Compare a [op] [b] pos) (fBin g fa fb) :=
  me2 (a := a) (b := b) (pe_cmpR ho ha hb hm) hg
theorem og_I {K : PySem.W.Frag} {g : Int → Int → Int} : Og K (oI g) (rI0 fun i j => .int (g i j)) := by
  intro ρ H σd hd σ d k v w Q rs rv rw' p
  cases d <;> cases k <;> first | exact p.elim | skip
  simp only [RD] at rv rw'
  exact ⟨_, _, rv, rw', p.here rs (by simp only [rD, RD])⟩
theorem og_B {K : PySem.W.Frag} {g : Int → Int → Bool} : Og K (oB g) (rI0 fun i j => .bl (g i j)) := by
  intro ρ H σd hd σ d k v w Q rs rv rw' p
  cases d <;> cases k <;> first | exact p.elim | skip
  simp only [RD] at rv rw'
  exact ⟨_, _, rv, rw', p.here rs (by simp only [rD, RD])⟩
theorem og_Ic {K : PySem.W.Frag} {c : Int → Int → Bool} {C : Int → Int → Prop} {g : Int → Int → Int} (hc : ∀ i j, c i j = true → C i j) : Og K (oIc c g) (rI C fun i j => .int (g i j)) := by
  intro ρ H σd hd σ d k v w Q rs rv rw' p
  cases d <;> cases k <;> first | exact p.elim | skip
  rename_i i j
  simp only [RD] at rv rw'
  cases e : c i j with
  | false => simp only [oIc, e] at p; exact p.elim
  | true =>
    simp only [oIc, e, if_true] at p
    exact ⟨i, j, rv, rw', hc i j e, p.here rs (by simp only [rD, RD])⟩
theorem sml_iff {i : Int} (h : sml i = true) : -(2 ^ 64) < i ∧ i < 2 ^ 64 := by
  simp only [sml, Bool.and_eq_true, decide_eq_true_eq] at h; exact h
theorem og_mul {K : PySem.W.Frag} : Og K oMul (rI CMul fun i j => .int (i * j)) := og_Ic fun i j h => by
  rcases (Bool.or_eq_true _ _).mp h with q | q
  · exact .inl (sml_iff q)
  · exact .inr (sml_iff q)
theorem og_mod {K : PySem.W.Frag} : Og K oMod (rI (fun _ j => 0 < j) fun i j => .int (i % j)) := og_Ic fun i j h => of_decide_eq_true h
noncomputable def CBig (_ j : Int) : Prop := 0 < j ∧ j < 2 ^ 250
theorem op_fdivB : OpR X (binaryOp .FloorDiv) (rI CBig fun i j => .int (i / j)) := opI fun i j _ _ _ _ _ hc q => by
  have h0 : j ≠ 0 := by have := hc.1; omega
  refine PyProof.Rows.floordiv_int h0 (by rw [Int.fdiv_eq_ediv_of_nonneg _ (Int.le_of_lt hc.1)]; exact q) (.inl (PyProof.noPylong_of_log2 ?_))
  have h2 : j.natAbs < 2 ^ 250 := by have := hc.2; have := hc.1; omega
  have h3 : j.natAbs ≠ 0 := by omega
  have := (Nat.log2_lt h3).mpr h2
  omega
theorem og_div {K : PySem.W.Frag} : Og K oDiv (rI CBig fun i j => .int (i / j)) := og_Ic fun i j h => by
  simp only [Bool.and_eq_true, decide_eq_true_eq] at h; exact h
theorem og_pow {K : PySem.W.Frag} : Og K oPow (rI CPow fun i j => .int (i ^ j.toNat)) := og_Ic fun i j h => by
  simp only [Bool.and_eq_true, decide_eq_true_eq] at h
  have := sml_iff h.2
  exact ⟨h.1.1, h.1.2, by omega⟩
theorem rd_non {K : PySem.W.Frag} {ρ : List Addr} {H : Hp} {d : D} {v : V} (h : RD K ρ H d v) : isNon d = decide (v = .non) := by
  cases d <;> simp only [RD] at h
  · subst h; rfl
  · subst h; rfl
  · subst h; rfl
  · subst h; rfl
  · obtain ⟨p, vs, rfl, _⟩ := h; rfl
  · obtain ⟨p, vs, rfl⟩ := h; rfl
  · obtain ⟨p, vs, rfl, _⟩ := h; rfl
theorem og_isNotN {K : PySem.W.Frag} : Og K oIsNotN (fun x y H Q => y = .non ∧ Q (.bl (!decide (x = .non))) H) := by
  intro ρ H σd hd σ d k v w Q rs rv rw' p
  unfold oIsNotN at p
  cases e : isNon k with
  | false => rw [e] at p; exact p.elim
  | true =>
    rw [e, if_pos rfl] at p
    refine ⟨of_decide_eq_true ((rd_non rw').symm.trans e), ?_⟩
    rw [← rd_non rv]
    exact p.here rs (by simp only [rD, RD])
theorem me_T_post {K : PySem.W.Frag} {ρ : List Addr} {H : Hp} {σd : Sd} {σ : St} {r : Res D} {Q : Bool → Hp → Prop} (h : Post K rB ρ H σd σ (asB r) Q) : Post K (rD K) ρ H σd σ r (fun x H' => ∃ c, x = .bl c ∧ Q c H') := by
  refine (Post.bind (R := rD K) h).imp fun v H1 zq12 => ?_
  obtain ⟨ρ1, d, hd1, e1, rs1, rv, p1⟩ := zq12
  refine ?_
  cases d <;> first | exact p1.elim | skip
  simp only [rD, RD] at rv
  exact ⟨_, rv, p1.here rs1 rfl⟩
theorem mt_val {e : Expr} {f : EF} (h : ME X e f) (he : ∀ whole, isTrue e X.env whole = (do let v ← whole; standAt e.pos; holding [v] (truthy v)) := by intro _; rfl) : MT X e (tE f) :=
  PT.imp (pt_val h he) fun σ H Q ⟨ρ, σd, hd, rs, p⟩ => ⟨ρ, σd, hd, rs, me_T_post p⟩
theorem mt_cmp {a b : Expr} {fa fb : EF} {op : CmpOp} {r : R2} {g : O2} (ho : OpR X (compareOp op) r) (hg : Og X.K g r) (ha : ME X a fa) (hb : ME X b fb) (hm : behindInMarks op b = false) : MT X (.Compare a [op] [b] pos) (tE (fBin g fa fb)) := by
  refine PT.imp (pt_cmpR ho ha hb hm) fun σ H Q zq13 => ?_
  obtain ⟨ρ, σd, hd, rs, p⟩ := zq13
  refine ?_
  have p := me_T_post p
  refine ⟨ρ, σd, hd, rs, ?_⟩
  refine (Post.bind (R := rD X.K) p).imp fun v H1 zq14 => ?_
  obtain ⟨ρ1, d, hd1, e1, rs1, rv, p1⟩ := zq14
  refine ?_
  refine ⟨ρ1, σd, hd1, rs1, ?_⟩
  refine (Post.bind (R := rD X.K) p1).imp fun w H2 zq15 => ?_
  obtain ⟨ρ2, k, hd2, e2, rs2, rw', p2⟩ := zq15
  refine ?_
  exact hg ρ2 H2 σd hd2 σ d k v w _ rs2 (rv.mono (rs1.hp.kp e2)) rw' p2
theorem mt_not {a : Expr} {t : TF} (h : MT X a t) : MT X (.UnaryOp .Not a pos) (tNot t) := by
  refine PT.imp (pt_not h) fun σ H Q zq16 => ?_
  obtain ⟨ρ, σd, hd, rs, p⟩ := zq16
  refine ⟨ρ, σd, hd, rs, ?_⟩
  refine (Post.bind (R := rB) p).imp fun c H1 zq17 => ?_
  obtain ⟨ρ1, d, hd1, e1, rs1, rv, p1⟩ := zq17
  refine ?_
  cases rv
  exact p1.here rs1 rfl
theorem mw_one {op a} {t : TF} (h : MT X a t) (ho : op = BoolOp.And ∨ op = BoolOp.Or) : MW X (.BoolOp op [a] pos) t := by
  rcases ho with rfl | rfl
  · exact pw_and1 h
  · exact pw_or1 h
theorem mw_and {a b : Expr} {rest : List Expr} {t u : TF} (ha : MT X a t) (hb : MW X (.BoolOp .And (b :: rest) pos) u) : MW X (.BoolOp .And (a :: b :: rest) pos) (tAnd t u) := by
  refine PW.imp (pw_and ha hb) fun σ H Q zq18 => ?_
  obtain ⟨ρ, σd, hd, rs, p⟩ := zq18
  refine ⟨ρ, σd, hd, rs, ?_⟩
  refine (Post.bind (R := rB) p).imp fun c H1 zq19 => ?_
  obtain ⟨ρ1, d, hd1, e1, rs1, rv, p1⟩ := zq19
  refine ?_
  cases rv
  cases c with
  | true => simp only [if_true] at p1 ⊢; exact ⟨ρ1, σd, hd1, rs1, p1⟩
  | false => simp only [Bool.false_eq_true, if_false] at p1 ⊢; exact p1.here rs1 rfl
theorem mw_or {a b : Expr} {rest : List Expr} {t u : TF} (ha : MT X a t) (hb : MW X (.BoolOp .Or (b :: rest) pos) u) : MW X (.BoolOp .Or (a :: b :: rest) pos) (tOr t u) := by
  refine PW.imp (pw_or ha hb) fun σ H Q zq20 => ?_
  obtain ⟨ρ, σd, hd, rs, p⟩ := zq20
  refine ⟨ρ, σd, hd, rs, ?_⟩
  refine (Post.bind (R := rB) p).imp fun c H1 zq21 => ?_
  obtain ⟨ρ1, d, hd1, e1, rs1, rv, p1⟩ := zq21
  refine ?_
  cases rv
  cases c with
  | true => simp only [if_true] at p1 ⊢; exact p1.here rs1 rfl
  | false => simp only [Bool.false_eq_true, if_false] at p1 ⊢; exact ⟨ρ1, σd, hd1, rs1, p1⟩
theorem MW.mt {e : Expr} {t : TF} (h : MW X e t) : MT X e t := h.pt
theorem lift_fT {K : PySem.W.Frag} {t : TF} {σ : St} {H : Hp} {Q : VK} (h : lift K (rD K) (fT t) σ H Q) : lift K rB t σ H (fun b H' => Q (.bl b) H') := by
  obtain ⟨ρ, σd, hd, rs, p⟩ := h
  refine ⟨ρ, σd, hd, rs, ?_⟩
  refine (Post.bind (R := rB) p).imp fun c H1 zq22 => ?_
  obtain ⟨ρ1, d, hd1, e1, rs1, rv, p1⟩ := zq22
  refine ?_
  cases rv
  exact p1.here rs1 (by simp only [rD, RD])
noncomputable def MB (X : Cx) (e : Expr) (t : TF) : Prop := PE X e (fun σ H Q => lift X.K rB t σ H fun b H' => Q (.bl b) H')
theorem MB.me {e : Expr} {t : TF} (h : MB X e t) : ME X e (fT t) := PE.imp h fun _ _ _ q => lift_fT q
theorem mb_of {e : Expr} {f : EF} (h : ME X e f) : MB X e (tE f) := by
  refine PE.imp h fun σ H Q zq23 => ?_
  obtain ⟨ρ, σd, hd, rs, p⟩ := zq23
  refine ⟨ρ, σd, hd, rs, (me_T_post p).imp ?_⟩
  rintro v H1 ⟨c, rfl, q⟩
  exact q
theorem mb_one {op a} {t : TF} (h : MB X a t) : MB X (.BoolOp op [a] pos) t := pe_one h
theorem mb_and {a b : Expr} {rest : List Expr} {t u : TF} (ha : MB X a t) (hb : MB X (.BoolOp .And (b :: rest) pos) u) : MB X (.BoolOp .And (a :: b :: rest) pos) (tAnd t u) := by
  refine PE.imp (pe_and ha hb) fun σ H Q zq24 => ?_
  obtain ⟨ρ, σd, hd, rs, p⟩ := zq24
  refine ⟨ρ, σd, hd, rs, ?_⟩
  refine (Post.bind (R := rB) p).imp fun c H1 zq25 => ?_
  obtain ⟨ρ1, d, hd1, e1, rs1, rv, p1⟩ := zq25
  refine ⟨c, rfl, ?_⟩
  cases rv
  cases c with
  | true => simp only [if_true] at p1 ⊢; exact ⟨ρ1, σd, hd1, rs1, p1⟩
  | false => simp only [Bool.false_eq_true, if_false] at p1 ⊢; exact p1.here rs1 rfl
theorem mb_not {a : Expr} {t : TF} (h : MB X a t) : MB X (.UnaryOp .Not a pos) (tNot t) := by
  refine PE.imp (pe_not h) fun σ H Q zq26 => ?_
  obtain ⟨ρ, σd, hd, rs, p⟩ := zq26
  refine ⟨ρ, σd, hd, rs, ?_⟩
  refine (Post.bind (R := rB) p).imp fun c H1 zq27 => ?_
  obtain ⟨ρ1, d, hd1, e1, rs1, rv, p1⟩ := zq27
  refine ⟨c, rfl, ?_⟩
  cases rv
  exact p1.here rs1 rfl
theorem me_if {c a b : Expr} {t : TF} {fa fb : EF} (hc : MT X c t) (ha : ME X a fa) (hb : ME X b fb) : ME X (.IfExp c a b pos) (fIf t fa fb) := by
  refine PE.imp (pe_ifExp hc ha hb) fun σ H Q zq28 => ?_
  obtain ⟨ρ, σd, hd, rs, p⟩ := zq28
  refine ⟨ρ, σd, hd, rs, ?_⟩
  refine (Post.bind (R := rB) p).imp fun c H1 zq29 => ?_
  obtain ⟨ρ1, d, hd1, e1, rs1, rv, p1⟩ := zq29
  refine ?_
  cases rv
  cases c with
  | true => simp only [if_true] at p1 ⊢; exact ⟨ρ1, σd, hd1, rs1, p1⟩
  | false => simp only [Bool.false_eq_true, if_false] at p1 ⊢; exact ⟨ρ1, σd, hd1, rs1, p1⟩
end
end Fm
set_option Elab.async false
set_option linter.all false
set_option maxRecDepth 100000
namespace Fm
open PySem PySem.Spec L2
section
variable {X : Cx} {pos : Pos}
theorem chain_post {K : PySem.W.Frag} {ρ : List Addr} {H : Hp} {σd : Sd} {hd : Hd} {σ : St} {r r' : R2} {g k : O2} {fa fb fc : EF} {Q : VK} (hg : Og K g r) (hk : Og K k r') (rs : RS K ρ H σd hd σ)
    (p : Post K (rD K) ρ H σd σ (fChain g k fa fb fc σd hd) Q) : tChain r r' (lift K (rD K) fa) (lift K (rD K) fb) (lift K (rD K) fc) σ H Q := by
  refine ⟨ρ, σd, hd, rs, ?_⟩
  refine (Post.bind (R := rD K) p).imp fun v H1 zq30 => ?_
  obtain ⟨ρ1, d, hd1, e1, rs1, rv, p1⟩ := zq30
  refine ?_
  refine ⟨ρ1, σd, hd1, rs1, ?_⟩
  refine (Post.bind (R := rD K) p1).imp fun w H2 zq31 => ?_
  obtain ⟨ρ2, d2, hd2, e2, rs2, rw2, p2⟩ := zq31
  refine ?_
  refine hg ρ2 H2 σd hd2 σ d d2 v w _ rs2 (rv.mono (rs1.hp.kp e2)) rw2 ((Post.bind (R := rD K) p2).imp fun z H3 zq24 => ?_)
  obtain ⟨ρ3, d3, hd3, e3, rs3, rz, p3⟩ := zq24
  refine ?_
  cases d3 <;> first | exact p3.elim | skip
  rename_i b
  simp only [rD, RD] at rz
  refine ⟨b, rz, ?_⟩
  cases b with
  | false =>
    rw [if_neg Bool.false_ne_true]
    exact p3.here rs3 (by simp only [rD, RD])
  | true =>
    rw [if_pos rfl]
    refine ⟨ρ3, σd, hd3, rs3, ?_⟩
    refine (Post.bind (R := rD K) p3).imp fun u H4 zq32 => ?_
    obtain ⟨ρ4, d4, hd4, e4, rs4, ru, p4⟩ := zq32
    refine ?_
    exact hk ρ4 H4 σd hd4 σ d2 d4 w u Q rs4 ((rw2.mono (rs2.hp.kp e3)).mono (rs3.hp.kp e4)) ru p4
theorem me_chain {a b c : Expr} {fa fb fc : EF} {op op' : CmpOp} {r r' : R2} {g k : O2} (ho : OpR X (compareOp op) r) (ho' : OpR X (compareOp op') r') (hg : Og X.K g r) (hk : Og X.K k r') (ha : ME X a fa) (hb : ME X b fb) (hc : ME X c fc)
    (hm : lastMarks [op, op'] [b, c] = false := by with_unfolding_all rfl) : ME X (.Compare a [op, op'] [b, c] pos) (fChain g k fa fb fc) :=
  PE.imp (pe_chain ho ho' ha hb hc hm) fun _ _ _ ⟨_, _, _, rs, p⟩ => chain_post hg hk rs p
theorem ma_nil : MA X [] aNil := PA.imp pa_nil fun _ _ _ ⟨_, _, _, rs, p⟩ => p.here rs RDs.nil
theorem ma_cons {e : Expr} {es : List Expr} {f : EF} {r : LF} (he : ME X e f) (hr : MA X es r) (hs : starEach (e :: es) X.env = (false, eval e X.env) :: starEach es X.env := by rfl) : MA X (e :: es) (aCons f r) := by
  refine PA.imp (pa_cons he hr hs) fun σ H Q zq33 => ?_
  obtain ⟨ρ, σd, hd, rs, p⟩ := zq33
  refine ?_
  refine ⟨ρ, σd, hd, rs, ?_⟩
  refine (Post.bind (R := rD X.K) p).imp fun v H1 zq34 => ?_
  obtain ⟨ρ1, d, hd1, e1, rs1, rv, p1⟩ := zq34
  refine ?_
  refine ⟨ρ1, σd, hd1, rs1, ?_⟩
  refine (Post.bind (R := rDs X.K) p1).imp fun vs H2 zq35 => ?_
  obtain ⟨ρ2, ds, hd2, e2, rs2, rvs, p2⟩ := zq35
  refine ?_
  exact p2.here rs2 (RDs.cons (rv.mono (rs1.hp.kp e2)) rvs)
theorem sz_line {n : Nat} (h : n ≤ SZ) : n ≤ sizeLine := Nat.le_trans h (by show 1000000 ≤ 2 ^ 24; decide)
theorem me_tup {es : List Expr} {k} {r : LF} (h : MA X es r) : ME X (.Tuple es k pos) (fTup r) := by
  refine PE.imp (pe_tup h) fun σ H Q zq36 => ?_
  obtain ⟨ρ, σd, hd, rs, p⟩ := zq36
  refine ?_
  refine ⟨ρ, σd, hd, rs, ?_⟩
  refine (Post.bind (R := rDs X.K) p).imp fun vs H1 zq37 => ?_
  obtain ⟨ρ1, ds, hd1, e1, rs1, rvs, p1⟩ := zq37
  refine ?_
  by_cases hz : ds.length ≤ SZ
  · rw [if_pos hz] at p1
    refine ⟨by rw [← rvs.length]; exact sz_line hz, fun q hq => ?_⟩
    have sm := same_upd (o := HO.tup vs) hq
    exact p1.at (Ext.same sm) (rs1.same sm) (by simp only [rD, RD]; exact ⟨q, vs, rfl, upd_same, rvs.mono (Kp.same sm)⟩)
  · rw [if_neg hz] at p1; exact p1.elim
theorem Ext.fresh {ρ ρ' : List Addr} {H H' : Hp} {q : Addr} (e : Ext ρ H ρ' H') (h : H' q = none) (n : q ∉ ρ') : H q = none := by
  cases z : H q with
  | none => rfl
  | some o =>
    by_cases hq : q ∈ ρ
    · obtain ⟨t, rfl⟩ := e.pre
      exact absurd (List.mem_append_left t hq) n
    · rw [e.frame q o z hq] at h; cases h
theorem RH.free {K : PySem.W.Frag} {ρ : List Addr} {H : Hp} {hd : Hd} (r : RH K ρ H hd) {q : Addr} (h : H q = none) : q ∉ ρ := fun z => by
  rcases r.mut z with ⟨_, e⟩ | ⟨_, e⟩ <;> (rw [h] at e; cases e)
theorem PostF.mk {K : PySem.W.Frag} {ρ ρ1 : List Addr} {H H1 : Hp} {hd1 : Hd} {σd : Sd} {σ : St} {l : List D} {vs : List V} {Q : VK} (p : PostF K ρ H σd σ (.ok l hd1) Q) (e1 : Ext ρ H ρ1 H1) (rs1 : RS K ρ1 H1 σd hd1 σ) (r : RDs K ρ1 H1 l vs) :
    ∀ q, H1 q = none → Q (.ref q) (upd H1 q (.lst vs)) := fun q hq => by
  have sm := same_upd (o := HO.lst vs) hq
  have nq := rs1.hp.free hq
  exact p q vs _ ρ1 (e1.trans (Ext.same sm)) (rs1.same sm) (e1.fresh hq nq) upd_same nq (r.mono (Kp.same sm))
theorem mf_lst {es : List Expr} {r : LF} (h : MA X es r) (hz : ∀ σd hd ds hd', r σd hd = .ok ds hd' → ds.length ≤ SZ) : MF X (.List es pos) r := by
  refine PE.imp (pe_lst h) fun σ H Q zq38 => ?_
  obtain ⟨ρ, σd, hd, rs, p⟩ := zq38
  refine ?_
  refine ⟨ρ, σd, hd, rs, ?_⟩
  cases e : r σd hd with
  | exc x h' => rw [e] at p; exact p
  | bad => rw [e] at p; exact p
  | ok ds hd1 =>
    rw [e] at p
    intro vs H1 ρ1 e1 rs1 rvs
    exact ⟨by rw [← RDs.length rvs]; exact sz_line (hz _ _ _ _ e), p.mk e1 rs1 rvs⟩
theorem aCons_len {f : EF} {r : LF} {n : Nat} (h : ∀ σd hd ds hd', r σd hd = .ok ds hd' → ds.length = n) : ∀ σd hd ds hd', aCons f r σd hd = .ok ds hd' → ds.length = n + 1 := by
  intro σd hd ds hd' e
  simp only [aCons] at e
  cases e1 : f σd hd with
  | exc x h' => rw [e1] at e; cases e
  | bad => rw [e1] at e; cases e
  | ok d h1 =>
    rw [e1] at e
    simp only [bind_ok] at e
    cases e2 : r σd h1 with
    | exc x h' => rw [e2] at e; cases e
    | bad => rw [e2] at e; cases e
    | ok ds2 h2 =>
      rw [e2] at e
      simp only [bind_ok] at e
      cases e
      simp [h _ _ _ _ e2]
theorem aNil_len : ∀ σd hd ds hd', aNil σd hd = .ok ds hd' → ds.length = 0 := by
  intro σd hd ds hd' e
  simp only [aNil] at e
  cases e
  rfl
theorem me_new {e : Expr} {r : LF} (h : MF X e r) : ME X e (fNew r) := by
  refine PE.imp h fun σ H Q zq39 => ?_
  obtain ⟨ρ, σd, hd, rs, p⟩ := zq39
  refine ⟨ρ, σd, hd, rs, ?_⟩
  unfold fNew at p
  cases e : r σd hd with
  | exc x h' => rw [e] at p; exact p
  | bad => rw [e] at p; exact p
  | ok ds hd1 =>
    rw [e] at p
    simp only [bind_ok] at p
    intro q vs H1 ρ1 e1 rs1 hq0 hq hn rvs
    by_cases hz : ds.length ≤ SZ
    · rw [if_pos hz] at p
      have rh := rs1.hp.alloc hq hn rvs
      have ex : Ext ρ H (ρ1 ++ [q]) H1 := ⟨by obtain ⟨t, rfl⟩ := e1.pre; exact ⟨t ++ [q], by simp⟩, fun a ha => by
        rcases List.mem_append.mp ha with z | z
        · exact e1.new a z
        · simp at z; subst z; exact .inr hq0, e1.frame⟩
      refine p.at ex (rs.ext ex rh) ?_
      simp only [rD, RD]
      refine ⟨q, ?_, rfl⟩
      rw [← rs1.hp.len]
      simp
    · rw [if_neg hz] at p; exact p.elim
theorem mq_new {e : Expr} {r : LF} (h : MF X e r) : MQ X e r := by
  refine PE.imp h fun σ H Q zq40 => ?_
  obtain ⟨ρ, σd, hd, rs, p⟩ := zq40
  refine ⟨ρ, σd, hd, rs, ?_⟩
  cases e : r σd hd with
  | exc x h' => rw [e] at p; exact p
  | bad => rw [e] at p; exact p
  | ok ds hd1 =>
    rw [e] at p
    intro q vs H1 ρ1 e1 rs1 hq0 hq hn rvs
    exact p (.ref q) H1 ρ1 e1 rs1 ⟨q, vs, rfl, .inl (SqL.of hq), rvs⟩
theorem LitAt.sq {K : PySem.W.Frag} {H : Hp} {a : Addr} {xs : List V} (h : LitAt K H a xs) : SqL K H a xs := by
  rcases h with ⟨o, h⟩ | h
  · exact .inl (.inr ⟨o, h⟩)
  · exact .inr h
theorem seq_rel {K : PySem.W.Frag} {ρ : List Addr} {H : Hp} {hd : Hd} {d : D} {v : V} {l : List D} (r : RH K ρ H hd) (h : RD K ρ H d v) (e : seqOf hd d = some l) : ∃ p vs, v = .ref p ∧ (SqL K H p vs ∨ H p = some (.tup vs)) ∧ RDs K ρ H l vs := by
  cases d <;> simp only [seqOf] at e <;> try (cases e; done)
  · cases e
    simp only [RD] at h
    obtain ⟨p, vs, e1, e2, e3⟩ := h
    exact ⟨p, vs, e1, .inr e2, e3⟩
  · rename_i n
    simp only [RD] at h
    obtain ⟨a, e1, e2⟩ := h
    cases c : hd[n]? with
    | none => rw [c] at e; cases e
    | some x =>
      rw [c] at e
      cases x with
      | dct l => cases e
      | lst l' =>
        cases e
        obtain ⟨vs, q1, q2⟩ := r.cel n _ a c e1
        exact ⟨a, vs, e2, .inl (SqL.of q1), q2⟩
  · cases e
    simp only [RD] at h
    obtain ⟨p, vs, e1, e2, e3⟩ := h
    exact ⟨p, vs, e1, .inl e2.sq, e3⟩
theorem mq_of {e : Expr} {f : EF} (h : ME X e f) : MQ X e (lOf f) := by
  refine PE.imp h fun σ H Q zq41 => ?_
  obtain ⟨ρ, σd, hd, rs, p⟩ := zq41
  refine ⟨ρ, σd, hd, rs, ?_⟩
  refine (Post.bind (R := rD X.K) p).imp fun v H1 zq42 => ?_
  obtain ⟨ρ1, d, hd1, e1, rs1, rv, p1⟩ := zq42
  refine ?_
  cases e : seqOf hd1 d with
  | none => rw [e] at p1; exact p1.elim
  | some l => rw [e] at p1; exact p1.here rs1 (seq_rel rs1.hp rv e)
theorem atI_rel {K : PySem.W.Frag} {ρ : List Addr} {H : Hp} {l : List D} {vs : List V} {i : Int} {d : D} (r : RDs K ρ H l vs) (e : atI l i = some d) : ∃ v, L2.atI vs i = some v ∧ RD K ρ H d v := by
  unfold atI at e
  unfold L2.atI
  have hl := r.length
  have hx : ixN l.length i = L2.ixN vs.length i := by rw [hl]; rfl
  rw [hx] at e
  cases c : L2.ixN vs.length i with
  | none => rw [c] at e; cases e
  | some j =>
    rw [c] at e
    simp only [Option.bind_some] at e ⊢
    exact r.get e
theorem me_at {a b : Expr} {fa fb : EF} (ha : ME X a fa) (hb : ME X b fb) (hs : PlainIx b) : ME X (.Subscript a b pos) (fAt fa fb) := by
  refine me2 (a := a) (b := b) (g := oAt) (pe_ix ix_seq ha hb hs) fun ρ H σd hd σ d k v w Q rs rv rw' p => ?_
  unfold oAt at p
  cases e : seqOf hd d with
  | none => rw [e] at p; exact p.elim
  | some l =>
    rw [e] at p
    cases k <;> first | exact p.elim | skip
    rename_i i
    simp only at p
    cases e2 : atI l i with
    | none => rw [e2] at p; exact p.elim
    | some x =>
      rw [e2] at p
      simp only [RD] at rw'
      obtain ⟨q, vs, hv, sq, rvs⟩ := seq_rel rs.hp rv e
      obtain ⟨u, hu, ru⟩ := atI_rel rvs e2
      rcases sq with sq | sq
      · exact .inl ⟨q, vs, i, u, hv, rw', sq, hu, p.here rs ru⟩
      · exact .inr (.inl ⟨q, vs, i, u, hv, rw', SqT.of sq, hu, p.here rs ru⟩)
theorem me_ix {a b : Expr} {la : LF} {fb : EF} (ha : MF X a la) (hb : ME X b fb) (hs : PlainIx b) : ME X (.Subscript a b pos) (fIx la fb) := by
  refine PE.imp (pe_ix ix_list ha hb hs) fun σ H Q zq43 => ?_
  obtain ⟨ρ, σd, hd, rs, p⟩ := zq43
  refine ⟨ρ, σd, hd, rs, ?_⟩
  unfold fIx at p
  cases e : la σd hd with
  | exc x h' => rw [e] at p; exact p
  | bad => rw [e] at p; exact p
  | ok l hd1 =>
    rw [e] at p
    simp only [bind_ok] at p
    intro q vs H1 ρ1 e1 rs1 hq0 hq hn rvs
    refine ⟨ρ1, σd, hd1, rs1, ?_⟩
    refine (Post.bind (R := rD X.K) (p.ext e1)).imp fun w H2 zq44 => ?_
    obtain ⟨ρ2, k, hd2, e2, rs2, rw', p2⟩ := zq44
    refine ?_
    cases k <;> first | exact p2.elim | skip
    rename_i i
    simp only at p2
    cases e3 : atI l i with
    | none => rw [e3] at p2; exact p2.elim
    | some x =>
      rw [e3] at p2
      simp only [rD, RD] at rw'
      obtain ⟨u, hu, ru⟩ := atI_rel (rvs.mono (rs1.hp.kp e2)) e3
      exact ⟨q, vs, i, u, rfl, rw', SqL.of (e2.frame q _ hq hn), hu, p2.here rs2 ru⟩
end
end Fm
set_option Elab.async false
set_option linter.all false
set_option maxRecDepth 100000
namespace Fm
open PySem PySem.Spec L2
section
variable {X : Cx} {pos : Pos}
noncomputable def B1 (X : Cx) (r : List V → Hp → VK → Prop) (x : Str) (p pos : Pos) (a : Expr) : Prop := ∀ t, PA X [a] t → PE X (.Call (.Name x p) [a] [] pos) (tCB r t)
theorem b1_fn {x : Str} {p : Pos} {a : Expr} {id : String} {r : List V → Hp → VK → Prop} (hc : CallR X (.builtin id) r) (hg : Gl X x) (hm : X.mg x = none) (hv : bootBuiltins x = some (.builtin id)) (hn : x ≠ "__name__" := by decide) (hdb : (x == ("__debug__" : Str)) = false := by decide)
    (he : starEach [a] X.env = (false, eval a X.env) :: starEach [] X.env := by rfl) : B1 X r x p pos a := fun _ ha => pe_callB hc hg hm hv ha hn hdb he
theorem b1_ty {x : Str} {p : Pos} {a : Expr} {T : String} {r : List V → Hp → VK → Prop} (hc : CallR X (.type T) r) (hg : Gl X x) (hm : X.mg x = none) (hv : bootBuiltins x = some (.type T)) (hn : x ≠ "__name__" := by decide) (hdb : (x == ("__debug__" : Str)) = false := by decide)
    (he : starEach [a] X.env = (false, eval a X.env) :: starEach [] X.env := by rfl) : B1 X r x p pos a := fun _ ha => pe_callTy hc hg hm hv ha hn hdb he
theorem me_b1q {x : Str} {p : Pos} {a : Expr} {la : LF} {r : List V → Hp → VK → Prop} {g : List D → Hd → Res D} (hb : B1 X r x p pos a) (ha : MQ X a la)
    (hg : ∀ ρ H σd hd σ l q vs Q, RS X.K ρ H σd hd σ → (SqL X.K H q vs ∨ H q = some (.tup vs)) → RDs X.K ρ H l vs → Post X.K (rD X.K) ρ H σd σ (g l hd) Q → r [.ref q] H Q)
    (hs : starEach [a] X.env = (false, eval a X.env) :: starEach [] X.env := by rfl) : ME X (.Call (.Name x p) [a] [] pos) (fun σ h => (la σ h).bind fun l h => g l h) := by
  refine PE.imp (hb _ (pa_cons ha pa_nil hs)) fun σ H Q zq45 => ?_
  obtain ⟨ρ, σd, hd, rs, pp⟩ := zq45
  refine ⟨ρ, σd, hd, rs, ?_⟩
  refine (Post.bind (R := rQ X.K) pp).imp fun v H1 zq46 => ?_
  obtain ⟨ρ1, l, hd1, e1, rs1, ⟨q, vs, hv, sq, rvs⟩, p1⟩ := zq46
  refine ?_
  subst hv
  exact hg ρ1 H1 σd hd1 σ l q vs Q rs1 sq rvs p1
theorem me_b1 {x : Str} {p : Pos} {a : Expr} {fa : EF} {r : List V → Hp → VK → Prop} {g : D → Hd → Res D} (hb : B1 X r x p pos a) (ha : ME X a fa)
    (hg : ∀ ρ H σd hd σ d v Q, RS X.K ρ H σd hd σ → RD X.K ρ H d v → Post X.K (rD X.K) ρ H σd σ (g d hd) Q → r [v] H Q)
    (hs : starEach [a] X.env = (false, eval a X.env) :: starEach [] X.env := by rfl) : ME X (.Call (.Name x p) [a] [] pos) (fun σ h => (fa σ h).bind fun x h => g x h) := by
  refine PE.imp (hb _ (pa_cons ha pa_nil hs)) fun σ H Q zq47 => ?_
  obtain ⟨ρ, σd, hd, rs, pp⟩ := zq47
  refine ⟨ρ, σd, hd, rs, ?_⟩
  refine (Post.bind (R := rD X.K) pp).imp fun v H1 zq48 => ?_
  obtain ⟨ρ1, d, hd1, e1, rs1, rv, p1⟩ := zq48
  refine ?_
  exact hg ρ1 H1 σd hd1 σ d v Q rs1 rv p1
theorem me_len {p : Pos} {a : Expr} {la : LF} (hg : Gl X "len") (hm : X.mg "len" = none) (ha : MQ X a la) (hs : starEach [a] X.env = (false, eval a X.env) :: starEach [] X.env := by rfl) : ME X (.Call (.Name "len" p) [a] [] pos) (fLen la) :=
  me_b1q (g := fun l h => .ok (.int l.length) h) (b1_fn call_len_seq hg hm PySem.boot_len (he := hs)) ha (fun ρ H σd hd σ l q vs Q rs sq rvs p => ⟨q, vs, rfl, sq.imp id SqT.of, by rw [← rvs.length]; exact p.here rs (by simp only [rD, RD])⟩) hs
theorem me_tupL {p : Pos} {a : Expr} {la : LF} (hg : Gl X "tuple") (hm : X.mg "tuple" = none) (ha : MQ X a la) (hs : starEach [a] X.env = (false, eval a X.env) :: starEach [] X.env := by rfl) : ME X (.Call (.Name "tuple" p) [a] [] pos) (fTupL la) := by
  refine me_b1q (g := fun l h => .ok (.tup l) h) (b1_ty call_tuple_of hg hm (by decide +kernel) (he := hs)) ha (fun ρ H σd hd σ l q vs Q rs sq rvs p => ⟨q, vs, rfl, ?_⟩) hs
  rcases sq with sq | sq
  · refine .inl ⟨sq, fun q' hq => ?_⟩
    have sm := same_upd (o := HO.tup vs) hq
    exact p.at (Ext.same sm) (rs.same sm) (by simp only [rD, RD]; exact ⟨q', vs, rfl, upd_same, rvs.mono (Kp.same sm)⟩)
  · exact .inr ⟨SqT.of sq, p.here rs (by simp only [rD, RD]; exact ⟨q, vs, rfl, sq, rvs⟩)⟩
theorem me_intc {p : Pos} {a : Expr} {fa : EF} (hg : Gl X "int") (hm : X.mg "int" = none) (ha : ME X a fa) (hs : starEach [a] X.env = (false, eval a X.env) :: starEach [] X.env := by rfl) : ME X (.Call (.Name "int" p) [a] [] pos) (fInt fa) := by
  refine me_b1 (g := fun x h => match x with | .int i => .ok (.int i) h | .bl b => .ok (.int (b2i b)) h | _ => .bad) (b1_ty call_int1 hg hm (by decide +kernel) (he := hs)) ha (fun ρ H σd hd σ d v Q rs rv p => ?_) hs
  cases d <;> first | exact p.elim | skip
  · simp only [RD] at rv; subst rv
    exact .inr ⟨_, rfl, p.here rs (by simp only [rD, RD]; rfl)⟩
  · simp only [RD] at rv; subst rv
    exact .inl ⟨_, rfl, p.here rs (by simp only [rD, RD])⟩
theorem preSum_list (ns : List Int) : PySem.preSum (fun i => ns.getD i 0) ns.length = ns.sum := by
  have key : ∀ k, k ≤ ns.length → PySem.preSum (fun i => ns.getD i 0) k = (ns.take k).sum := by
    intro k
    induction k with
    | zero => intro _; simp [PySem.preSum]
    | succ k ih =>
      intro hk
      rw [PySem.preSum, ih (by omega), List.take_add_one, List.getElem?_eq_getElem (by omega), List.sum_append]
      simp [List.getD, List.getElem?_eq_getElem (show k < ns.length by omega)]
  rw [key _ (Nat.le_refl _), List.take_length]
theorem ints_at {its : List Value} {ns : List Int} (r : Vals (ns.map V.int) its) (i : Nat) (v : Value) (h : its.toArray[i]? = some v) : ∃ t, v = .int (ns.getD i 0) t := by
  have h' : its[i]? = some v := by simpa using h
  have hl := r.length
  have hi : i < its.length := (List.getElem?_eq_some_iff.mp h').1
  have hn : i < ns.length := by rw [← hl] at hi; simpa using hi
  obtain ⟨u, hu, ru⟩ := r.get (i := i) (x := .int ns[i]) (by simp [hn])
  rw [h'] at hu
  cases hu
  obtain ⟨t, e⟩ := ru
  exact ⟨t, by rw [e]; simp [List.getD, hn]⟩
theorem call_sumR (hc : X.calm = true) : CallR X (.builtin "sum") (fun xs H Q => ∃ (p : Addr) (ns : List Int), xs = [.ref p] ∧ (SqL X.K H p (ns.map V.int) ∨ SqT X.K H p (ns.map V.int)) ∧ Q (.int ns.sum) H) := by
  intro pins s σ H xs us Q I r q
  obtain ⟨p, ns, rfl, sq, q⟩ := q
  obtain ⟨u, rfl, ru⟩ := Vals.one r
  cases (show u = Value.ref p from ru)
  have fin : ∀ {it : Obj} {h' : Heap} {tk : Nat} {t' : Tok} {n : Nat}, n = ns.length → (∀ b o, b ∉ [s.heap.objs.size] → (s.heap.push it).get? b = some o → h'.get? b = some o) → EP X pins σ Q (.int (PySem.preSum (fun i => ns.getD i 0) n) t') { s with heap := h', toks := tk } := by
    intro it h' tk t' n hn hk
    subst hn
    refine ⟨.int ns.sum, H, I.kept (t' := tk) fun b o e => hk b o (by simp; exact Nat.ne_of_lt (Heap.lt_size e)) (Heap.get?_push_of_some _ e), ⟨t', by rw [preSum_list]⟩, q⟩
  have hA : (X.A.in1).handled = none := I.ok.hd hc
  rcases sq with sq | sq
  · obtain ⟨its, rv, pl, hz⟩ := I.list sq
    have il : s.heap.IsList p its.toArray := pl.isList
    have hlt : p < s.heap.objs.size := by obtain ⟨o, ho, _⟩ := il; exact Heap.lt_size ho
    refine PySem.call_sum_walkG (PySem.wpAny_pyIter_list il ?_)
    refine ⟨s.heap.objs.size, _, [s.heap.objs.size], _, _, _, fun i => ns.getD i 0, rfl, PySem.Walks.list hA s.heap.objs.size p (Nat.ne_of_lt hlt) its.toArray, ⟨⟨_, Heap.get?_push_size _ rfl, rfl, rfl⟩, ?_⟩, ?_, ints_at rv, ?_⟩
    · obtain ⟨o, ho, r⟩ := il; exact ⟨o, Heap.get?_push_of_some _ ho, r⟩
    · intro b hb
      rcases List.mem_cons.mp hb with rfl | hb
      · rw [Heap.size_push]; exact Nat.lt_succ_self _
      · simp at hb; subst hb; rw [Heap.size_push]; exact Nat.lt_succ_of_lt hlt
    · exact fun h' tk t' hk => fin (by simpa using rv.length.symm) hk
  · obtain ⟨its, rv, pl, hz⟩ := I.tuple sq
    have il : s.heap.IsTuple p its.toArray := pl
    have hlt : p < s.heap.objs.size := by obtain ⟨o, ho, _⟩ := il; exact Heap.lt_size ho
    refine PySem.call_sum_walkG (PySem.wpAny_pyIter_tuple il ?_)
    refine ⟨s.heap.objs.size, _, [s.heap.objs.size], _, _, _, fun i => ns.getD i 0, rfl, PySem.Walks.tuple hA s.heap.objs.size p (Nat.ne_of_lt hlt) its.toArray, ⟨⟨_, Heap.get?_push_size _ rfl, rfl, rfl⟩, ?_⟩, ?_, ints_at rv, ?_⟩
    · obtain ⟨o, ho, r⟩ := il; exact ⟨o, Heap.get?_push_of_some _ ho, r⟩
    · intro b hb
      rcases List.mem_cons.mp hb with rfl | hb
      · rw [Heap.size_push]; exact Nat.lt_succ_self _
      · simp at hb; subst hb; rw [Heap.size_push]; exact Nat.lt_succ_of_lt hlt
    · exact fun h' tk t' hk => fin (by simpa using rv.length.symm) hk
theorem ints_rel {K : PySem.W.Frag} {ρ : List Addr} {H : Hp} : ∀ {l : List D} {vs : List V} {is : List Int}, RDs K ρ H l vs → intsD l = some is → vs = is.map V.int
  | [], _, is, r, e => by simp only [intsD] at e; cases e; simp only [RDs] at r; subst r; rfl
  | d :: l, _, is, r, e => by
    simp only [RDs] at r
    obtain ⟨v, vs, rfl, h1, h2⟩ := r
    cases d <;> simp only [intsD] at e <;> try (cases e; done)
    rename_i i
    cases c : intsD l with
    | none => rw [c] at e; cases e
    | some js =>
      rw [c] at e
      cases e
      simp only [RD] at h1
      rw [h1, ints_rel h2 c]
      rfl
theorem me_sum {p : Pos} {a : Expr} {la : LF} (hc : X.calm = true) (hg : Gl X "sum") (hm : X.mg "sum" = none) (ha : MQ X a la) (hs : starEach [a] X.env = (false, eval a X.env) :: starEach [] X.env := by rfl) : ME X (.Call (.Name "sum" p) [a] [] pos) (fSum la) := by
  refine me_b1q (g := fun l h => match intsD l with | some is => .ok (.int is.sum) h | none => .bad) (b1_fn (call_sumR hc) hg hm (by decide +kernel) (he := hs)) ha (fun ρ H σd hd σ l q vs Q rs sq rvs p => ?_) hs
  cases c : intsD l with
  | none => simp only [c] at p; exact p.elim
  | some is =>
    simp only [c] at p
    have e := ints_rel rvs c
    subst e
    exact ⟨q, is, rfl, sq.imp id SqT.of, p.here rs (by simp only [rD, RD])⟩
end
end Fm
set_option Elab.async false
set_option linter.all false
set_option maxRecDepth 100000
namespace Fm
open PySem PySem.Spec L2
section
variable {K : PySem.W.Frag} {ρ : List Addr} {H : Hp}
mutual
theorem peq_same : ∀ {d k : D} {v : V} {b : Bool}, RD K ρ H d v → RD K ρ H k v → peq d k = some b → b = true
  | .int i, k, v, b, h1, h2, e => by
    simp only [RD] at h1; subst h1
    cases k <;> simp only [RD] at h2 <;> try (cases h2; done)
    all_goals first
      | (cases h2; simp only [peq] at e; simpa using e.symm)
      | (obtain ⟨_, _, z, _⟩ := h2; cases z)
      | (obtain ⟨_, _, z⟩ := h2; cases z)
  | .bl i, k, v, b, h1, h2, e => by
    simp only [RD] at h1; subst h1
    cases k <;> simp only [RD] at h2 <;> try (cases h2; done)
    all_goals first
      | (cases h2; simp only [peq] at e; simpa using e.symm)
      | (obtain ⟨_, _, z, _⟩ := h2; cases z)
      | (obtain ⟨_, _, z⟩ := h2; cases z)
  | .str x, k, v, b, h1, h2, e => by
    simp only [RD] at h1; subst h1
    cases k <;> simp only [RD] at h2 <;> try (cases h2; done)
    all_goals first
      | (simp only [peq] at e; simp only [toS, V.str.injEq, PySem.Str.mk.injEq] at h2; have h3 := congrArg Array.toList h2; simp at h3; subst h3; simpa using e.symm)
      | (obtain ⟨_, _, z, _⟩ := h2; cases z)
      | (obtain ⟨_, _, z⟩ := h2; cases z)
  | .non, k, v, b, h1, h2, e => by
    simp only [RD] at h1; subst h1
    cases k <;> simp only [RD] at h2 <;> try (cases h2; done)
    all_goals first
      | (simp only [peq] at e; simpa using e.symm)
      | (obtain ⟨_, _, z, _⟩ := h2; cases z)
      | (obtain ⟨_, _, z⟩ := h2; cases z)
  | .tup xs, k, v, b, h1, h2, e => by
    simp only [RD] at h1
    obtain ⟨p, vs, rfl, hp, r1⟩ := h1
    cases k <;> simp only [peq] at e <;> try (cases e; done)
    · simp only [RD] at h2; cases h2
    · simp only [RD] at h2; cases h2
    · rename_i ys
      simp only [RD] at h2
      obtain ⟨p', vs', z, hp', r2⟩ := h2
      cases z
      rw [hp] at hp'; cases hp'
      cases c : peqs xs ys with
      | none => rw [c] at e; cases e
      | some b' =>
        rw [c] at e
        simp only [Option.map_some, Option.some.injEq] at e
        have := peqs_same r1 r2 c
        subst this
        rw [← e, r1.length, r2.length]
        simp
  | .ref n, k, v, b, h1, h2, e => by cases k <;> simp only [peq] at e <;> cases e
  | .lit l, k, v, b, h1, h2, e => by cases k <;> simp only [peq] at e <;> cases e
  | .exn c l, k, v, b, h1, h2, e => by simp only [RD] at h1
theorem peqs_same : ∀ {xs ys : List D} {vs : List V} {b : Bool}, RDs K ρ H xs vs → RDs K ρ H ys vs → peqs xs ys = some b → b = true
  | [], _, _, _, _, _, e => by simp only [peqs] at e; cases e; rfl
  | x :: xs, [], _, _, _, _, e => by simp only [peqs] at e; cases e; rfl
  | x :: xs, y :: ys, _, b, h1, h2, e => by
    simp only [RDs] at h1 h2
    obtain ⟨v, r, rfl, a1, a2⟩ := h1
    obtain ⟨v', r', z, b1, b2⟩ := h2
    cases z
    simp only [peqs] at e
    cases c : peq x y with
    | none => rw [c] at e; cases e
    | some p =>
      cases c2 : peqs xs ys with
      | none => rw [c, c2] at e; cases e
      | some q =>
        rw [c, c2] at e
        simp only [Option.some.injEq] at e
        rw [← e, peq_same a1 b1 c, peqs_same a2 b2 c2]; rfl
end
end
section
variable {K : PySem.W.Frag} {ρ : List Addr} {H : Hp} {P : Program} {w : World} {s : Shared}
theorem tup_at (hok : HOk P w H s.heap) {p : Addr} {vs : List V} (h : H p = some (.tup vs)) : ∃ its : List Value, Vals vs its ∧ s.heap.IsTuple p its.toArray := by
  obtain ⟨z, its, r, t⟩ := hok p _ h
  exact ⟨its, r, t⟩
mutual
theorem peq_at (hok : HOk P w H s.heap) : ∀ {d k : D} {v v' : V} {u u' : Value} {b : Bool} {A : Around}, RD K ρ H d v → RD K ρ H k v' → RelV v u → RelV v' u' → peq d k = some b → A.units + dep d < cLine → SeqAt.EqAt A s u u' b
  | .int i, k, v, v', u, u', b, A, h1, h2, r1, r2, e, hu => by
    simp only [RD] at h1; subst h1
    obtain ⟨t, rfl⟩ := r1
    cases k <;> simp only [peq] at e <;> try (cases e; done)
    all_goals cases e
    · simp only [RD] at h2; subst h2; cases r2; exact SeqAt.EqAt.int_none i t
    · simp only [RD] at h2; subst h2; cases r2; exact SeqAt.EqAt.int_bool i t _
    · simp only [RD] at h2; subst h2; obtain ⟨t', rfl⟩ := r2; exact SeqAt.EqAt.int_int i t _ t'
    · simp only [RD] at h2; obtain ⟨p, vs, rfl, hp, _⟩ := h2; cases r2
      obtain ⟨its, _, il⟩ := tup_at hok hp
      exact SeqAt.EqAt.int_tuple i t il (Nat.lt_of_le_of_lt (Nat.le_add_right _ _) hu)
  | .bl i, k, v, v', u, u', b, A, h1, h2, r1, r2, e, hu => by
    simp only [RD] at h1; subst h1
    cases r1
    cases k <;> simp only [peq] at e <;> try (cases e; done)
    all_goals cases e
    · simp only [RD] at h2; subst h2; cases r2; exact SeqAt.EqAt.bool_bool i _
    · simp only [RD] at h2; subst h2; obtain ⟨t', rfl⟩ := r2; exact SeqAt.EqAt.bool_int i _ t'
  | .str x, k, v, v', u, u', b, A, h1, h2, r1, r2, e, hu => by
    simp only [RD] at h1; subst h1
    obtain ⟨t, rfl⟩ := r1
    cases k <;> simp only [peq] at e <;> try (cases e; done)
    all_goals cases e
    rename_i y
    simp only [RD] at h2; subst h2; obtain ⟨t', rfl⟩ := r2
    have : decide (x = y) = (toS x == toS y) := by
      by_cases z : x = y
      · subst z; simp
      · have : ¬ toS x = toS y := fun q => z (by have := congrArg (fun (s : Str) => s.cps.toList) q; simpa [toS] using this)
        simp [z, this]
    rw [this]
    exact SeqAt.EqAt.str_str _ t _ t'
  | .non, k, v, v', u, u', b, A, h1, h2, r1, r2, e, hu => by
    simp only [RD] at h1; subst h1
    cases r1
    cases k <;> simp only [peq] at e <;> try (cases e; done)
    all_goals cases e
    · simp only [RD] at h2; subst h2; cases r2; exact SeqAt.EqAt.same _
    · simp only [RD] at h2; subst h2; obtain ⟨t', rfl⟩ := r2; exact SeqAt.EqAt.none_int _ t'
    · simp only [RD] at h2; obtain ⟨p, vs, rfl, hp, _⟩ := h2; cases r2
      obtain ⟨its, _, il⟩ := tup_at hok hp
      exact SeqAt.EqAt.none_tuple il (Nat.lt_of_le_of_lt (Nat.le_add_right _ _) hu)
  | .tup xs, k, v, v', u, u', b, A, h1, h2, r1, r2, e, hu => by
    have h1' := h1
    simp only [RD] at h1
    obtain ⟨p, vs, rfl, hp, q1⟩ := h1
    cases r1
    obtain ⟨its, rv, il⟩ := tup_at hok hp
    have hu0 : A.units < cLine := Nat.lt_of_le_of_lt (Nat.le_add_right _ _) hu
    cases k <;> simp only [peq] at e <;> try (cases e; done)
    · cases e; simp only [RD] at h2; subst h2; cases r2; exact SeqAt.EqAt.tuple_none il hu0
    · cases e; simp only [RD] at h2; subst h2; obtain ⟨t', rfl⟩ := r2; exact SeqAt.EqAt.tuple_int _ t' il hu0
    · rename_i ys
      have h2' := h2
      simp only [RD] at h2
      obtain ⟨p', vs', rfl, hp', q2⟩ := h2
      cases r2
      by_cases hpp : p = p'
      · subst hpp
        have : b = true := peq_same h1' h2' (by simp only [peq]; exact e)
        subst this
        exact SeqAt.EqAt.same _
      · obtain ⟨its', rv', il'⟩ := tup_at hok hp'
        cases c : peqs xs ys with
        | none => rw [c] at e; cases e
        | some b' =>
          rw [c] at e
          simp only [Option.map_some, Option.some.injEq] at e
          obtain ⟨f, hf, ha⟩ := peqs_at hok (A := A.in1) q1 q2 rv rv' c (by simp only [dep] at hu; show A.units + 1 + deps xs < cLine; omega)
          have := SeqAt.RcAt.tuples (s := s) (A := A) (e := f) il il' hu0 (fun j h1 h2 => by simpa using hf j (by simpa using h1) (by simpa using h2))
          rw [← e, ← ha, q1.length, q2.length, rv.length, rv'.length]
          refine SeqAt.EqAt.of_refs hpp ?_
          rw [show (decide (its.length = its'.length)) = (its.length == its'.length) from rfl]
          simpa using this
  | .ref n, k, v, v', u, u', b, A, h1, h2, r1, r2, e, hu => by cases k <;> simp only [peq] at e <;> cases e
  | .lit l, k, v, v', u, u', b, A, h1, h2, r1, r2, e, hu => by cases k <;> simp only [peq] at e <;> cases e
  | .exn c l, k, v, v', u, u', b, A, h1, h2, r1, r2, e, hu => by simp only [RD] at h1
theorem peqs_at (hok : HOk P w H s.heap) : ∀ {xs ys : List D} {vs vs' : List V} {us us' : List Value} {b : Bool} {A : Around}, RDs K ρ H xs vs → RDs K ρ H ys vs' → Vals vs us → Vals vs' us' → peqs xs ys = some b → A.units + deps xs < cLine →
    ∃ f : Nat → Bool, (∀ j (h1 : j < us.length) (h2 : j < us'.length), SeqAt.EqAt A s us[j] us'[j] (f j)) ∧ (List.range (min us.length us'.length)).all f = b
  | [], ys, vs, vs', us, us', b, A, h1, h2, r1, r2, e, hu => by
    simp only [RDs] at h1; subst h1; cases r1
    simp only [peqs] at e; cases e
    exact ⟨fun _ => true, fun j h1 => by simp at h1, by simp⟩
  | x :: xs, [], vs, vs', us, us', b, A, h1, h2, r1, r2, e, hu => by
    simp only [RDs] at h2; subst h2; cases r2
    simp only [peqs] at e; cases e
    exact ⟨fun _ => true, fun j h1 h2 => by simp at h2, by simp⟩
  | x :: xs, y :: ys, vs, vs', us, us', b, A, h1, h2, r1, r2, e, hu => by
    simp only [RDs] at h1 h2
    obtain ⟨v, r, rfl, a1, a2⟩ := h1
    obtain ⟨v', r', rfl, b1, b2⟩ := h2
    cases r1 with
    | cons p1 p2 =>
      cases r2 with
      | cons s1 s2 =>
        simp only [peqs] at e
        cases c : peq x y with
        | none => rw [c] at e; cases e
        | some p =>
          cases c2 : peqs xs ys with
          | none => rw [c, c2] at e; cases e
          | some q =>
            rw [c, c2] at e
            simp only [Option.some.injEq] at e
            simp only [deps] at hu
            have g1 := peq_at hok (A := A) a1 b1 p1 s1 c (by omega)
            obtain ⟨f, hf, ha⟩ := peqs_at hok (A := A) a2 b2 p2 s2 c2 (by omega)
            refine ⟨fun j => match j with | 0 => p | j + 1 => f j, fun j h1 h2 => ?_, ?_⟩
            · cases j with
              | zero => exact g1
              | succ j => exact hf j (by simpa using h1) (by simpa using h2)
            · rw [← e, ← ha, List.length_cons, List.length_cons, Nat.succ_min_succ, List.range_succ_eq_map, List.all_cons, List.all_map]
              rfl
end
theorem peq_rc (hok : HOk P w H s.heap) {d k : D} {v v' : V} {u u' : Value} {b : Bool} {A : Around} (h1 : RD K ρ H d v) (h2 : RD K ρ H k v') (r1 : RelV v u) (r2 : RelV v' u') (e : peq d k = some b) (hu : A.units + dep d < cLine) :
    SeqAt.RcAt A s u u' b ∧ SeqAt.RcNeAt A s u u' (!b) := by
  have hu0 : A.units < cLine := Nat.lt_of_le_of_lt (Nat.le_add_right _ _) hu
  cases d <;> simp only [RD] at h1
  · subst h1; cases r1
    cases k <;> simp only [peq] at e <;> try (cases e; done)
    all_goals cases e
    · simp only [RD] at h2; subst h2; cases r2; exact ⟨SeqAt.RcAt.none_none, SeqAt.RcNeAt.none_none⟩
    · simp only [RD] at h2; subst h2; obtain ⟨t', rfl⟩ := r2; exact ⟨SeqAt.RcAt.none_int _ t', SeqAt.RcNeAt.none_int _ t'⟩
    · simp only [RD] at h2; obtain ⟨p, vs, rfl, hp, _⟩ := h2; cases r2
      obtain ⟨its, _, il⟩ := tup_at hok hp
      exact ⟨SeqAt.RcAt.none_tuple il hu0, SeqAt.RcNeAt.none_tuple il hu0⟩
  · subst h1; cases r1
    cases k <;> simp only [peq] at e <;> try (cases e; done)
    all_goals cases e
    · simp only [RD] at h2; subst h2; cases r2; exact ⟨SeqAt.RcAt.bool_bool _ _, SeqAt.RcNeAt.bool_bool _ _⟩
    · simp only [RD] at h2; subst h2; obtain ⟨t', rfl⟩ := r2; exact ⟨SeqAt.RcAt.bool_int _ _ t', SeqAt.RcNeAt.bool_int _ _ t'⟩
  · subst h1; obtain ⟨t, rfl⟩ := r1
    cases k <;> simp only [peq] at e <;> try (cases e; done)
    all_goals cases e
    · simp only [RD] at h2; subst h2; cases r2; exact ⟨SeqAt.RcAt.int_none _ t, SeqAt.RcNeAt.int_none _ t⟩
    · simp only [RD] at h2; subst h2; cases r2; exact ⟨SeqAt.RcAt.int_bool _ t _, SeqAt.RcNeAt.int_bool _ t _⟩
    · simp only [RD] at h2; subst h2; obtain ⟨t', rfl⟩ := r2; exact ⟨SeqAt.RcAt.int_int _ t _ t', SeqAt.RcNeAt.int_int _ t _ t'⟩
    · simp only [RD] at h2; obtain ⟨p, vs, rfl, hp, _⟩ := h2; cases r2
      obtain ⟨its, _, il⟩ := tup_at hok hp
      exact ⟨SeqAt.RcAt.int_tuple _ t il hu0, SeqAt.RcNeAt.int_tuple _ t il hu0⟩
  · subst h1; obtain ⟨t, rfl⟩ := r1
    cases k <;> simp only [peq] at e <;> try (cases e; done)
    all_goals cases e
    rename_i x y
    simp only [RD] at h2; subst h2; obtain ⟨t', rfl⟩ := r2
    have : decide (x = y) = (toS x == toS y) := by
      by_cases z : x = y
      · subst z; simp
      · have : ¬ toS x = toS y := fun q => z (by have := congrArg (fun (s : Str) => s.cps.toList) q; simpa [toS] using this)
        simp [z, this]
    rw [this]
    exact ⟨SeqAt.RcAt.str_str _ t _ t', SeqAt.RcNeAt.str_str _ t _ t'⟩
  · rename_i xs
    obtain ⟨p, vs, rfl, hp, q1⟩ := h1
    cases r1
    obtain ⟨its, rv, il⟩ := tup_at hok hp
    cases k <;> simp only [peq] at e <;> try (cases e; done)
    · cases e; simp only [RD] at h2; subst h2; cases r2; exact ⟨SeqAt.RcAt.tuple_none il hu0, SeqAt.RcNeAt.tuple_none il hu0⟩
    · cases e; simp only [RD] at h2; subst h2; obtain ⟨t', rfl⟩ := r2; exact ⟨SeqAt.RcAt.tuple_int _ t' il hu0, SeqAt.RcNeAt.tuple_int _ t' il hu0⟩
    · rename_i ys
      simp only [RD] at h2
      obtain ⟨p', vs', rfl, hp', q2⟩ := h2
      cases r2
      obtain ⟨its', rv', il'⟩ := tup_at hok hp'
      cases c : peqs xs ys with
      | none => rw [c] at e; cases e
      | some b' =>
        rw [c] at e
        simp only [Option.map_some, Option.some.injEq] at e
        obtain ⟨f, hf, ha⟩ := peqs_at hok (A := A.in1) q1 q2 rv rv' c (by simp only [dep] at hu; show A.units + 1 + deps xs < cLine; omega)
        have g1 := SeqAt.RcAt.tuples (s := s) (A := A) (e := f) il il' hu0 (fun j h1 h2 => by simpa using hf j (by simpa using h1) (by simpa using h2))
        have g2 := SeqAt.RcNeAt.tuples (s := s) (A := A) (e := f) il il' hu0 (fun j h1 h2 => by simpa using hf j (by simpa using h1) (by simpa using h2))
        rw [← e, ← ha, q1.length, q2.length, rv.length, rv'.length, show (decide (its.length = its'.length)) = (its.length == its'.length) from rfl]
        exact ⟨by simpa using g1, by simpa using g2⟩
  · cases k <;> simp only [peq] at e <;> cases e
  · cases k <;> simp only [peq] at e <;> cases e
end
section
variable {X : Cx}
theorem lst_rel {K : PySem.W.Frag} {ρ : List Addr} {H : Hp} {hd : Hd} {d : D} {v : V} {l : List D} (r : RH K ρ H hd) (h : RD K ρ H d v) (e : lstOf hd d = some l) : ∃ p vs, v = .ref p ∧ SqL K H p vs ∧ RDs K ρ H l vs := by
  cases d <;> simp only [lstOf] at e <;> try (cases e; done)
  · rename_i n
    simp only [RD] at h
    obtain ⟨a, e1, e2⟩ := h
    cases c : hd[n]? with
    | none => rw [c] at e; cases e
    | some x =>
      rw [c] at e
      cases x with
      | dct l => cases e
      | lst l' =>
        cases e
        obtain ⟨vs, q1, q2⟩ := r.cel n _ a c e1
        exact ⟨a, vs, e2, SqL.of q1, q2⟩
  · cases e
    simp only [RD] at h
    obtain ⟨p, vs, e1, e2, e3⟩ := h
    exact ⟨p, vs, e1, e2.sq, e3⟩
theorem eqG_rc {pins : List (Addr × Obj)} {σ : St} {H : Hp} {s : Shared} {ρ : List Addr} {hd : Hd} {d k : D} {v v' : V} {u u' : Value} {b : Bool} (hu : X.A.units + 24 < cLine) (I : Inv X pins σ H s) (r : RH X.K ρ H hd) (h1 : RD X.K ρ H d v) (h2 : RD X.K ρ H k v')
    (r1 : RelV v u) (r2 : RelV v' u') (e : eqG hd d k = some b) : SeqAt.RcAt X.A s u u' b ∧ SeqAt.RcNeAt X.A s u u' (!b) := by
  have hu0 : X.A.units < cLine := by omega
  simp only [eqG] at e
  cases c1 : lstOf hd d with
  | none =>
    cases c2 : lstOf hd k with
    | some l => rw [c1, c2] at e; cases e
    | none =>
      rw [c1, c2] at e
      simp only at e
      split at e
      · rename_i hd20
        exact peq_rc I.hok h1 h2 r1 r2 e (by omega)
      · cases e
  | some xs =>
    cases c2 : lstOf hd k with
    | none => rw [c1, c2] at e; cases e
    | some ys =>
      rw [c1, c2] at e
      simp only [eqL] at e
      obtain ⟨p, vs, rfl, s1, q1⟩ := lst_rel r h1 c1
      obtain ⟨p', vs', rfl, s2, q2⟩ := lst_rel r h2 c2
      cases r1; cases r2
      obtain ⟨its, rv, pl, _⟩ := I.list s1
      obtain ⟨its', rv', pl', _⟩ := I.list s2
      have il : s.heap.IsList p its.toArray := pl.isList
      have il' : s.heap.IsList p' its'.toArray := pl'.isList
      have l1 : xs.length = its.length := q1.length.trans rv.length
      have l2 : ys.length = its'.length := q2.length.trans rv'.length
      split at e
      · rename_i hd20
        split at e
        · rename_i hl
          obtain ⟨f, hf, ha⟩ := peqs_at I.hok (A := X.A.in1) q1 q2 rv rv' e (by show X.A.units + 1 + deps xs < cLine; omega)
          have hs : its.toArray.size = its'.toArray.size := by simp; omega
          have g1 := SeqAt.RcAt.lists (s := s) (A := X.A) (e := f) il il' hs hu0 (fun j h1 h2 => by simpa using hf j (by simpa using h1) (by simpa using h2))
          have g2 := SeqAt.RcNeAt.lists (s := s) (A := X.A) (e := f) il il' hs hu0 (fun j h1 h2 => by simpa using hf j (by simpa using h1) (by simpa using h2))
          have hm : min its.length its'.length = its.length := by omega
          rw [hm] at ha
          rw [← ha]
          exact ⟨by simpa using g1, by simpa using g2⟩
        · rename_i hl
          cases e
          have hs : (its.toArray.size != its'.toArray.size) = true := by simp; omega
          exact ⟨SeqAt.RcAt.lists_lengths il il' hs hu0, SeqAt.RcNeAt.lists_lengths il il' hs hu0⟩
      · cases e
noncomputable def rEqG (K : PySem.W.Frag) (f : Bool → Bool) : R2 := fun x y H Q => ∃ ρ hd d k b, RH K ρ H hd ∧ RD K ρ H d x ∧ RD K ρ H k y ∧ eqG hd d k = some b ∧ Q (.bl (f b)) H
theorem op_eqG (hu : X.A.units + 24 < cLine) : OpR X (compareOp .Eq) (rEqG X.K id) := by
  intro pins s σ H x y v u Q I rx ry h
  obtain ⟨ρ, hd, d, k, b, r, h1, h2, e, q⟩ := h
  exact (eqG_rc hu I r h1 h2 rx ry e).1 _ _ _ _ ⟨.bl b, H, I, rfl, q⟩
theorem op_neG (hu : X.A.units + 24 < cLine) : OpR X (compareOp .NotEq) (rEqG X.K not) := by
  intro pins s σ H x y v u Q I rx ry h
  obtain ⟨ρ, hd, d, k, b, r, h1, h2, e, q⟩ := h
  exact (eqG_rc hu I r h1 h2 rx ry e).2 _ _ _ _ ⟨.bl (!b), H, I, rfl, q⟩
theorem og_eq {K : PySem.W.Frag} : Og K oEq (rEqG K id) := by
  intro ρ H σd hd σ d k v w Q rs rv rw' p
  unfold oEq at p
  cases e : eqG hd d k with
  | none => rw [e] at p; exact p.elim
  | some b => rw [e] at p; exact ⟨ρ, hd, d, k, b, rs.hp, rv, rw', e, p.here rs (by simp only [rD, RD]; rfl)⟩
theorem og_ne {K : PySem.W.Frag} : Og K oNe (rEqG K not) := by
  intro ρ H σd hd σ d k v w Q rs rv rw' p
  unfold oNe at p
  cases e : eqG hd d k with
  | none => rw [e] at p; exact p.elim
  | some b => rw [e] at p; exact ⟨ρ, hd, d, k, b, rs.hp, rv, rw', e, p.here rs (by simp only [rD, RD])⟩
end
end Fm
set_option Elab.async false
set_option linter.all false
set_option maxRecDepth 100000
namespace Fm
open PySem PySem.Spec L2
section
variable {K : PySem.W.Frag} {ρ ρ' : List Addr} {H H' : Hp} {hd hd' : Hd} {σd : Sd} {σ : St}
theorem PostS.outE {r : Res D} {k : D → Hd → Out} {En : Ends} (p : PostS K ρ H (outE r σd k) En) :
    Post K (rD K) ρ H σd σ r (fun v H' => ∃ ρ' d hd', Ext ρ H ρ' H' ∧ RS K ρ' H' σd hd' σ ∧ RD K ρ' H' d v ∧ PostS K ρ' H' (k d hd') En) := by
  cases r with
  | ok d h' => exact fun b H' ρ' ex rs q => ⟨ρ', d, h', ex, rs, q, PostS.ext ex p⟩
  | exc x h' => exact p
  | bad => exact p
theorem RSt.set (r : RSt K ρ H σd σ) {d : D} {v : V} (i : Nat) (h : RD K ρ H d v) : RSt K ρ H (σd.set i (some d)) (σ.set i (some v)) := by
  refine ⟨by simp [r.len], fun j x e => ?_⟩
  by_cases hj : i = j
  · subst hj
    by_cases hl : i < σd.length
    · simp only [slot, List.getElem?_set_self hl] at e
      cases e
      exact ⟨v, by rw [List.getElem?_set_self (by rw [← r.len]; exact hl)], h⟩
    · simp only [slot] at e
      rw [List.getElem?_eq_none (by simp; omega)] at e
      cases e
  · simp only [slot, List.getElem?_set_ne hj] at e
    rw [List.getElem?_set_ne hj]
    exact r.at' j x (by simpa only [slot] using e)
noncomputable def liftG (K : PySem.W.Frag) (g : GF) : TG := fun v σ H Q => ∃ ρ σd hd d σd', RS K ρ H σd hd σ ∧ RD K ρ H d v ∧ g d σd = some σd' ∧ ∀ σ', RS K ρ H σd' hd σ' → Q σ' H
noncomputable def putAll (σ : Sd) (l : List Nat) (xs : List D) : Sd := (l.zip xs).foldl (fun σ p => σ.set p.1 (some p.2)) σ
noncomputable def liftGs (K : PySem.W.Frag) (l : List Nat) : TGs := fun vs σ H Q => ∃ ρ σd hd ds, RS K ρ H σd hd σ ∧ RDs K ρ H ds vs ∧ ds.length = l.length ∧ ∀ σ', RS K ρ H (putAll σd l ds) hd σ' → Q σ' H
end
noncomputable def MG (X : Cx) (tg : Expr) (g : GF) : Prop := PG X tg (liftG X.K g)
noncomputable def MGs (X : Cx) (ts : List Expr) (l : List Nat) : Prop := PGs X ts (liftGs X.K l)
section
variable {X : Cx} {pos : Pos}
theorem PG.imp {tg : Expr} {t u : TG} (h : PG X tg t) (i : ∀ v σ H Q, u v σ H Q → t v σ H Q) : PG X tg u := fun pins s σ H v w Q I r q => h pins s σ H v w Q I r (i v σ H Q q)
theorem PGs.imp {tg : List Expr} {t u : TGs} (h : PGs X tg t) (i : ∀ v σ H Q, u v σ H Q → t v σ H Q) : PGs X tg u := fun pins s σ H v w Q I r q => h pins s σ H v w Q I r (i v σ H Q q)
theorem mg_name {i : Nat} {x : Str} (hN : X.N.Nodup) (hi : X.N[i]? = some x) (hx : Loc X.env.scope x) (hf : X.fn x = true ∨ X.env.scope.names.lookup x = some .local := by first | exact .inl rfl | exact .inr rfl | assumption) : MG X (.Name x pos) (gN i) := by
  refine PG.imp (pg_name hN hi hx hf) fun v σ H Q zq49 => ?_
  obtain ⟨ρ, σd, hd, d, σd', rs, rv, e, q⟩ := zq49
  refine ?_
  simp only [gN, Option.some.injEq] at e
  subst e
  exact q _ ⟨rs.hp, rs.st.set i rv⟩
theorem mgs_nil : MGs X [] [] := by
  refine PGs.imp pgs_nil fun vs σ H Q zq50 => ?_
  obtain ⟨ρ, σd, hd, ds, rs, rv, e, q⟩ := zq50
  refine ?_
  have : ds = [] := by simpa using e
  subst this
  simp only [RDs] at rv
  exact ⟨rv, q σ rs⟩
theorem mgs_cons {e : Expr} {es : List Expr} {i : Nat} {l : List Nat} (h1 : MG X e (gN i)) (h2 : MGs X es l)
    (hs : (assignEach (e :: es) X.env).map (·.2) = assign e X.env :: (assignEach es X.env).map (·.2) := by rfl) : MGs X (e :: es) (i :: l) := by
  refine PGs.imp (pgs_cons h1 h2 hs) fun vs σ H Q zq51 => ?_
  obtain ⟨ρ, σd, hd, ds, rs, rv, e, q⟩ := zq51
  refine ?_
  cases ds with
  | nil => simp at e
  | cons d ds =>
    simp only [RDs] at rv
    obtain ⟨v, r, rfl, h1, h2⟩ := rv
    refine ⟨v, r, rfl, ρ, σd, hd, d, _, rs, h1, rfl, fun σ' rs' => ?_⟩
    exact ⟨ρ, _, hd, ds, rs', h2, by simpa using e, fun σ2 rs2 => q σ2 rs2⟩
theorem mg_tup {es : List Expr} {k : Nat} {l : List Nat} (hc : X.calm = true) (h : MGs X es l)
    (hn : (assignEach es X.env).length = l.length := by rfl) (hst : (assignEach es X.env).findIdx? (·.1) = none := by rfl) : MG X (.Tuple es k pos) (gT l) := by
  refine PG.imp (pg_tup hc h hn hst) fun v σ H Q zq52 => ?_
  obtain ⟨ρ, σd, hd, d, σd', rs, rv, e, q⟩ := zq52
  refine ?_
  cases d <;> simp only [gT] at e <;> try (cases e; done)
  rename_i xs
  split at e
  · rename_i hl
    cases e
    simp only [RD] at rv
    obtain ⟨p, vs, rfl, hp, r⟩ := rv
    exact ⟨p, vs, rfl, SqT.of hp, by rw [← r.length]; exact hl, ρ, σd, hd, xs, rs, r, hl, q⟩
  · cases e
theorem mss_nil : MSs X [] sNil := PSs.imp pss_nil fun En σ H ⟨ρ, σd, hd, rs, p⟩ => p σ H ρ Ext.refl rs
theorem mss_cons {st : Stmt} {rest : List Stmt} {a b : SF} (h1 : MS X st a) (h2 : MSs X rest b) : MSs X (st :: rest) (sSeq a b) := by
  refine PSs.imp (pss_cons h1 h2) fun En σ H zq53 => ?_
  obtain ⟨ρ, σd, hd, rs, p⟩ := zq53
  refine ⟨ρ, σd, hd, rs, ?_⟩
  unfold sSeq at p
  cases e : a σd hd with
  | nx σ1 h1 => rw [e] at p; exact fun σ' H' ρ' ex rs' => ⟨ρ', σ1, h1, rs', PostS.ext ex p⟩
  | rt d h1 => rw [e] at p; exact p
  | bk σ1 h1 => rw [e] at p; exact p
  | ct σ1 h1 => rw [e] at p; exact p
  | exc x σ1 h1 => rw [e] at p; exact p
  | bad => rw [e] at p; exact p
theorem mss_one {st : Stmt} {a : SF} (h : MS X st a) : MSs X [st] a := pss_one h
theorem ms_bad {st : Stmt} : MS X st sBad := PS.imp ps_never fun En σ H ⟨ρ, σd, hd, rs, p⟩ => p.elim
theorem ms_ret {e : Expr} {f : EF} (h : ME X e f) : MS X (.Return (some e) pos) (sRet f) := by
  refine PS.imp (ps_ret h) fun En σ H zq54 => ?_
  obtain ⟨ρ, σd, hd, rs, p⟩ := zq54
  refine ⟨ρ, σd, hd, rs, ?_⟩
  refine (PostS.outE p).imp fun v H1 zq55 => ?_
  obtain ⟨ρ1, d, hd1, e1, rs1, rv, p1⟩ := zq55
  refine ?_
  exact p1 v H1 ρ1 Ext.refl rs1.hp rv
theorem ms_expr {e : Expr} {f : EF} (h : ME X e f) (hs : swapsWith e none pos.line X.env = pure false := by rfl) : MS X (.Expr e pos) (sExp f) := by
  refine PS.imp (ps_expr h hs) fun En σ H zq56 => ?_
  obtain ⟨ρ, σd, hd, rs, p⟩ := zq56
  refine ⟨ρ, σd, hd, rs, ?_⟩
  refine (PostS.outE p).imp fun v H1 zq57 => ?_
  obtain ⟨ρ1, d, hd1, e1, rs1, rv, p1⟩ := zq57
  refine ?_
  exact p1 σ H1 ρ1 Ext.refl rs1
theorem ms_if {c : Expr} {a b : List Stmt} {t : TF} {fa fb : SF} (hc : MT X c t) (ha : MSs X a fa) (hb : MSs X b fb) : MS X (.If c a b pos) (sIf t fa fb) := by
  refine PS.imp (ps_if hc ha hb) fun En σ H zq58 => ?_
  obtain ⟨ρ, σd, hd, rs, p⟩ := zq58
  refine ⟨ρ, σd, hd, rs, ?_⟩
  unfold sIf at p
  cases e : t σd hd with
  | ok c h1 =>
    rw [e] at p
    intro b H' ρ' ex rs' q
    cases q
    cases c with
    | true => simp only [if_true] at p ⊢; exact ⟨ρ', σd, h1, rs', PostS.ext ex p⟩
    | false => simp only [Bool.false_eq_true, if_false] at p ⊢; exact ⟨ρ', σd, h1, rs', PostS.ext ex p⟩
  | exc x h1 => rw [e] at p; exact p
  | bad => rw [e] at p; exact p
theorem ms_set {i : Nat} {x : Str} {e : Expr} {f : EF} {pos' : Pos} (hN : X.N.Nodup) (hi : X.N[i]? = some x) (hx : Loc X.env.scope x) (he : ME X e f) (hs : swapsWith e (some (.Name x pos')) pos.line X.env = pure false := by rfl) (hf : X.fn x = true ∨ X.env.scope.names.lookup x = some .local := by first | exact .inl rfl | exact .inr rfl | assumption) :
    MS X (.Assign [.Name x pos'] e pos) (sSet (gN i) f) := by
  refine PS.imp (ps_set hN hi hx he hs hf) fun En σ H zq59 => ?_
  obtain ⟨ρ, σd, hd, rs, p⟩ := zq59
  refine ⟨ρ, σd, hd, rs, ?_⟩
  refine (PostS.outE p).imp fun v H1 zq60 => ?_
  obtain ⟨ρ1, d, hd1, e1, rs1, rv, p1⟩ := zq60
  refine ?_
  exact p1 _ H1 ρ1 Ext.refl ⟨rs1.hp, rs1.st.set i rv⟩
theorem ms_asg {tg e : Expr} {f : EF} {g : GF} (he : ME X e f) (hg : MG X tg g) (hs : swapsWithSole [tg] e pos.line X.env = pure false := by rfl) (hw : swappedStores [tg] e X.env = pure none := by rfl)
    (h1 : (assignEach [tg] X.env).map (·.2) = [assign tg X.env] := by rfl) : MS X (.Assign [tg] e pos) (sSet g f) := by
  refine PS.imp (ps_asg he hg hs hw h1) fun En σ H zq61 => ?_
  obtain ⟨ρ, σd, hd, rs, p⟩ := zq61
  refine ⟨ρ, σd, hd, rs, ?_⟩
  refine (PostS.outE p).imp fun v H1 zq62 => ?_
  obtain ⟨ρ1, d, hd1, e1, rs1, rv, p1⟩ := zq62
  refine ?_
  cases c : g d σd with
  | none => rw [c] at p1; exact p1.elim
  | some σ1 => rw [c] at p1; exact ⟨ρ1, σd, hd1, d, σ1, rs1, rv, c, fun σ' rs' => p1 σ' H1 ρ1 Ext.refl rs'⟩
theorem ixN_eq : Fm.ixN = L2.ixN := rfl
theorem ms_put {o i e : Expr} {fo fi fe : EF} {p2 : Pos} (he : ME X e fe) (ho : ME X o fo) (hi : ME X i fi) (hs : swapsWithSole [.Subscript o i p2] e pos.line X.env = pure false := by rfl) (hw : swappedStores [.Subscript o i p2] e X.env = pure none := by rfl)
    (h1 : (assignEach [.Subscript o i p2] X.env).map (·.2) = [assign (.Subscript o i p2) X.env] := by rfl) (ha : ∀ v, assign (.Subscript o i p2) X.env v = (do
      let ov ← holding [v] (eval o X.env)
      let iv ← holding [v, ov] (eval i X.env)
      standAt p2
      holding [v, ov, iv] (setItem ov iv v)
      release [v, ov, iv] []) := by intro _; rfl) : MS X (.Assign [.Subscript o i p2] e pos) (sPut fo fi fe) := by
  refine PS.imp (ps_asg he (pg_sub ho hi set_list ha) hs hw h1) fun En σ H zq63 => ?_
  obtain ⟨ρ, σd, hd, rs, p⟩ := zq63
  refine ⟨ρ, σd, hd, rs, ?_⟩
  refine (PostS.outE p).imp fun v H1 zq64 => ?_
  obtain ⟨ρ1, d, hd1, e1, rs1, rv, p1⟩ := zq64
  refine ?_
  refine ⟨ρ1, σd, hd1, rs1, ?_⟩
  refine (PostS.outE p1).imp fun vo H2 zq65 => ?_
  obtain ⟨ρ2, dO, hd2, e2, rs2, ro, p2⟩ := zq65
  refine ?_
  refine ⟨ρ2, σd, hd2, rs2, ?_⟩
  refine (PostS.outE p2).imp fun vi H3 zq66 => ?_
  obtain ⟨ρ3, di, hd3, e3, rs3, ri, p3⟩ := zq66
  refine ?_
  have rv3 := (rv.mono (rs1.hp.kp e2)).mono (rs2.hp.kp e3)
  have ro3 := ro.mono (rs2.hp.kp e3)
  cases dO with
  | ref n =>
    cases di with
    | int j =>
      simp only at p3
      cases c : hd3[n]? with
      | none => rw [c] at p3; exact p3.elim
      | some cell =>
        rw [c] at p3
        cases cell with
        | dct l => exact p3.elim
        | lst l =>
          simp only at p3
          cases c2 : ixN l.length j with
          | none => rw [c2] at p3; exact p3.elim
          | some k =>
            rw [c2] at p3
            simp only [RD] at ro3 ri
            obtain ⟨a, ha, rfl⟩ := ro3
            obtain ⟨vs, hv, rvs⟩ := rs3.hp.cel n _ a c ha
            refine ⟨a, vs, j, k, rfl, ri, hv, by rw [← rvs.length, ← ixN_eq]; exact c2, ?_⟩
            have hn : n < hd3.length := (List.getElem?_eq_some_iff.mp c).1
            have rh := rs3.hp.write ha hn (RDs.set rv3 k rvs)
            have ex : Ext ρ3 H3 ρ3 (upd H3 a (.lst (vs.set k v))) := Ext.write (List.mem_of_getElem? ha)
            exact p3 σ _ ρ3 ex (rs3.ext ex rh)
    | _ => exact p3.elim
  | _ => exact p3.elim
theorem ms_aug {i : Nat} {x : Str} {e : Expr} {f : EF} {op : Operator} {r : R2} {g : O2} {pos' : Pos} (hN : X.N.Nodup) (hi : X.N[i]? = some x) (hx : Loc X.env.scope x) (he : ME X e f) (ho : OpR X (inplaceOp op) r) (hg : Og X.K g r) (hf : X.fn x = true ∨ X.env.scope.names.lookup x = some .local := by first | exact .inl rfl | exact .inr rfl | assumption) :
    MS X (.AugAssign (.Name x pos') op e pos) (sAug i g f) := by
  refine PS.imp (ps_aug hN hi hx he (ti := r) ho hf) fun En σ H zq67 => ?_
  obtain ⟨ρ, σd, hd, rs, p⟩ := zq67
  refine ?_
  unfold sAug at p
  cases c : slot σd i with
  | none => rw [c] at p; exact p.elim
  | some d =>
    rw [c] at p
    obtain ⟨v, h1, h2⟩ := rs.st.at' i d c
    refine ⟨v, h1, ρ, σd, hd, rs, ?_⟩
    refine (PostS.outE p).imp fun w H1 zq68 => ?_
    obtain ⟨ρ1, k, hd1, e1, rs1, rw', p1⟩ := zq68
    refine ?_
    refine hg ρ1 H1 σd hd1 σ d k v w _ rs1 (h2.mono (rs.hp.kp e1)) rw' ((PostS.outE p1).imp fun z H2 zq25 => ?_)
    obtain ⟨ρ2, m, hd2, e2, rs2, rz, p2⟩ := zq25
    refine ?_
    exact p2 _ H2 ρ2 Ext.refl ⟨rs2.hp, rs2.st.set i rz⟩
end
section
variable (K : PySem.W.Frag)
structure Walk (ρ0 : List Addr) (H0 : Hp) (J : It) (l : List D) (g : Option Nat) : Prop where
  go : ∀ ρ H hd (i : Nat) d, Ext ρ0 H0 ρ H → RH K ρ H hd → held g l hd → l[i]? = some d → J.go i H ∧ ∀ x H', J.yld i H x H' → Same H H' ∧ RD K ρ H' d x
  stop : ∀ ρ H hd, Ext ρ0 H0 ρ H → RH K ρ H hd → held g l hd → J.stop l.length H
  sz : l.length ≤ sizeLine
noncomputable def PostI (ρ : List Addr) (H : Hp) (σd : Sd) (σ : St) (r : Res (List D × Option Nat)) (R : It → Hp → Prop) : Prop := match r with
  | .ok p hd' => ∀ J H' ρ', Ext ρ H ρ' H' → RS K ρ' H' σd hd' σ → Walk K ρ' H' J p.1 p.2 → R J H'
  | _ => False
noncomputable def liftI (f : IF) : TI := fun σ H R => ∃ ρ σd hd, RS K ρ H σd hd σ ∧ PostI K ρ H σd σ (f σd hd) R
end
noncomputable def MI (X : Cx) (tg e : Expr) (f : IF) : Prop := PI X tg e (liftI X.K f)
section
variable {X : Cx} {pos : Pos} {tg : Expr}
theorem PI.imp {e : Expr} {t u : TI} (h : PI X tg e t) (i : ∀ σ H R, u σ H R → t σ H R) : PI X tg e u := fun pins s σ H R I q => h pins s σ H R I (i σ H R q)
theorem ms_for {iter : Expr} {body : List Stmt} {f : IF} {g : GF} {b : SF} (hp : PassesOwn (model X.prog X.w) X.A X.env X.xe) (hc : X.calm = true) (hi : MI X tg iter f) (hg : MG X tg g) (hb : MSs X body b)
    (hs : ∀ x, foldedSetIterable iter X.env x = pure x := by intro _; rfl) : MS X (.For tg iter body [] pos) (sFor f g b) := by
  refine PS.imp (ps_for hp hc hi hg hb hs) fun En σ H zq69 => ?_
  obtain ⟨ρ, σd, hd, rs, p⟩ := zq69
  refine ⟨ρ, σd, hd, rs, ?_⟩
  unfold sFor at p
  cases e : f σd hd with
  | exc x h' => rw [e] at p; exact p
  | bad => rw [e] at p; exact p
  | ok q hd1 =>
    rw [e] at p
    obtain ⟨l, gd⟩ := q
    intro J H1 ρ1 ex1 rs1 wk
    simp only at p wk
    refine ⟨fun i m σ' H' => ∃ ρ' σd' hd', Ext ρ1 H1 ρ' H' ∧ RS X.K ρ' H' σd' hd' σ' ∧ i ≤ l.length ∧ m = l.length - i ∧ PostS X.K ρ' H' (forL gd l g b (l.drop i) σd' hd') En,
      ⟨l.length, ρ1, σd, hd1, Ext.refl, rs1, Nat.zero_le _, by simp, by simpa using PostS.ext ex1 p⟩, ?_⟩
    rintro i m σ' H' ⟨ρ', σd', hd', ex, rs', hil, rfl, pp⟩
    by_cases hlt : i < l.length
    · have hdi : l[i]? = some l[i] := by simp [hlt]
      rw [List.drop_eq_getElem_cons hlt] at pp
      unfold forL at pp
      by_cases hh : held gd l hd'
      · rw [if_pos hh] at pp
        obtain ⟨go, yl⟩ := wk.go ρ' H' hd' i _ ex rs'.hp hh hdi
        refine .inr ⟨go, fun σ2 H2 => ∃ ρ2 σd2 hd2, Ext ρ1 H1 ρ2 H2 ∧ RS X.K ρ2 H2 σd2 hd2 σ2 ∧ PostS X.K ρ2 H2 (forL gd l g b (l.drop (i + 1)) σd2 hd2) En,
          fun σ2 H2 ⟨ρ2, σd2, hd2, a1, a2, a3⟩ => ⟨l.length - (i + 1), by omega, ρ2, σd2, hd2, a1, a2, hlt, rfl, a3⟩, fun x H2 y => ?_⟩
        obtain ⟨sm, rx⟩ := yl x H2 y
        cases c : g l[i] σd' with
        | none => rw [c] at pp; exact pp.elim
        | some σd2 =>
          rw [c] at pp
          simp only at pp
          refine ⟨ρ', σd', hd', l[i], σd2, rs'.same sm, rx, c, fun σ2 rs2 => ⟨ρ', σd2, hd', rs2, ?_⟩⟩
          have e12 : Ext ρ' H' ρ' H2 := Ext.same sm
          cases c2 : b σd2 hd' with
          | nx σ3 h3 => rw [c2] at pp; exact fun σ4 H4 ρ4 ex4 rs4 => ⟨ρ4, σ3, h3, ex.trans (e12.trans ex4), rs4, PostS.ext (e12.trans ex4) pp⟩
          | ct σ3 h3 => rw [c2] at pp; exact fun σ4 H4 ρ4 ex4 rs4 => ⟨ρ4, σ3, h3, ex.trans (e12.trans ex4), rs4, PostS.ext (e12.trans ex4) pp⟩
          | bk σ3 h3 => rw [c2] at pp; exact fun σ4 H4 ρ4 ex4 rs4 => pp σ4 H4 ρ4 (e12.trans ex4) rs4
          | rt d h3 => rw [c2] at pp; exact fun v H4 ρ4 ex4 rs4 rv => pp v H4 ρ4 (e12.trans ex4) rs4 rv
          | exc x σ3 h3 => rw [c2] at pp; exact pp
          | bad => rw [c2] at pp; exact pp
      · rw [if_neg hh] at pp; exact pp.elim
    · have e0 : i = l.length := by omega
      subst e0
      rw [List.drop_length] at pp
      unfold forL at pp
      by_cases hh : held gd l hd'
      · rw [if_pos hh] at pp
        exact .inl ⟨wk.stop ρ' H' hd' ex rs'.hp hh, pp σ' H' ρ' Ext.refl rs'⟩
      · rw [if_neg hh] at pp; exact pp.elim
theorem ms_while {c : Expr} {body : List Stmt} {t : TF} {b : SF} (hp : PassesOwn (model X.prog X.w) X.A X.env X.xe) (hc : MT X c t) (hb : MSs X body b) : MS X (.While c body [] pos) (sWhile t b) := by
  refine PS.imp (ps_while hp hc hb) fun En σ H zq70 => ?_
  obtain ⟨ρ, σd, hd, rs, p⟩ := zq70
  refine ?_
  unfold sWhile at p
  refine ⟨fun m σ' H' => ∃ ρ' σd' hd', RS X.K ρ' H' σd' hd' σ' ∧ PostS X.K ρ' H' (whileN t b m σd' hd') En, ⟨fuel t b σd hd, ρ, σd, hd, rs, p⟩, ?_⟩
  rintro m σ' H' ⟨ρ', σd', hd', rs', pp⟩
  cases m with
  | zero => exact pp.elim
  | succ m =>
    unfold whileN at pp
    refine ⟨ρ', σd', hd', rs', ?_⟩
    cases e : t σd' hd' with
    | exc x h1 => rw [e] at pp; exact pp
    | bad => rw [e] at pp; exact pp
    | ok c h1 =>
      rw [e] at pp
      intro b' H2 ρ2 ex2 rs2 q
      cases q
      cases c with
      | false => simp only [Bool.false_eq_true, if_false] at pp ⊢; exact pp σ' H2 ρ2 ex2 rs2
      | true =>
        simp only [if_true] at pp ⊢
        refine ⟨fun σ3 H3 => ∃ ρ3 σd3 hd3, RS X.K ρ3 H3 σd3 hd3 σ3 ∧ PostS X.K ρ3 H3 (whileN t b m σd3 hd3) En, fun σ3 H3 q => ⟨m, Nat.lt_succ_self _, q⟩, ρ2, σd', h1, rs2, ?_⟩
        cases c2 : b σd' h1 with
        | nx σ3 h3 => rw [c2] at pp; exact fun σ4 H4 ρ4 ex4 rs4 => ⟨ρ4, σ3, h3, rs4, PostS.ext (ex2.trans ex4) pp⟩
        | ct σ3 h3 => rw [c2] at pp; exact fun σ4 H4 ρ4 ex4 rs4 => ⟨ρ4, σ3, h3, rs4, PostS.ext (ex2.trans ex4) pp⟩
        | bk σ3 h3 => rw [c2] at pp; exact fun σ4 H4 ρ4 ex4 rs4 => pp σ4 H4 ρ4 (ex2.trans ex4) rs4
        | rt d h3 => rw [c2] at pp; exact fun v H4 ρ4 ex4 rs4 rv => pp v H4 ρ4 (ex2.trans ex4) rs4 rv
        | exc x σ3 h3 => rw [c2] at pp; exact pp
        | bad => rw [c2] at pp; exact pp
theorem walk_tup {K : PySem.W.Frag} {ρ : List Addr} {H : Hp} {hd : Hd} {q : Addr} {l : List D} {vs : List V} (r : RH K ρ H hd) (hq : H q = some (.tup vs)) (rv : RDs K ρ H l vs) (hz : vs.length ≤ sizeLine) : Walk K ρ H (Itt K q) l none where
  go := fun ρ' H' hd' i d ex rh _ hi => by
    have k := r.kp ex
    obtain ⟨v, hv, rd⟩ := (rv.mono k).get hi
    have sq : SqT K H' q vs := SqT.of (k.tup q vs hq)
    refine ⟨⟨vs, v, sq, hv⟩, fun x H2 y => ?_⟩
    obtain ⟨rfl, y⟩ := y
    have := y vs sq
    rw [hv] at this
    cases this
    exact ⟨Same.refl _, rd⟩
  stop := fun ρ' H' hd' ex rh _ => ⟨vs, SqT.of ((r.kp ex).tup q vs hq), by rw [rv.length]; exact Nat.le_refl _⟩
  sz := by rw [rv.length]; exact hz
theorem walk_lit {K : PySem.W.Frag} {ρ : List Addr} {H : Hp} {hd : Hd} {q : Addr} {l : List D} {vs : List V} (r : RH K ρ H hd) (hq : LitAt K H q vs) (rv : RDs K ρ H l vs) (hz : vs.length ≤ sizeLine) : Walk K ρ H (Itl K q) l none where
  go := fun ρ' H' hd' i d ex rh _ hi => by
    have k := r.kp ex
    obtain ⟨v, hv, rd⟩ := (rv.mono k).get hi
    have sq : SqL K H' q vs := (hq.mono k).sq
    refine ⟨⟨vs, v, sq, hv⟩, fun x H2 y => ?_⟩
    obtain ⟨rfl, y⟩ := y
    have := y vs sq
    rw [hv] at this
    cases this
    exact ⟨Same.refl _, rd⟩
  stop := fun ρ' H' hd' ex rh _ => ⟨vs, (hq.mono (r.kp ex)).sq, by rw [rv.length]; exact Nat.le_refl _⟩
  sz := by rw [rv.length]; exact hz
theorem walk_ref {K : PySem.W.Frag} {ρ : List Addr} {H : Hp} {n : Nat} {q : Addr} {l : List D} (hq : ρ[n]? = some q) (hz : l.length ≤ sizeLine) : Walk K ρ H (Itl K q) l (some n) where
  sz := hz
  go := fun ρ' H' hd' i d ex rh hl hi => by
    obtain ⟨vs, e, rv⟩ := rh.cel n _ q hl (ex.get hq)
    obtain ⟨v, hv, rd⟩ := rv.get hi
    have sq : SqL K H' q vs := SqL.of e
    refine ⟨⟨vs, v, sq, hv⟩, fun x H2 y => ?_⟩
    obtain ⟨rfl, y⟩ := y
    have := y vs sq
    rw [hv] at this
    cases this
    exact ⟨Same.refl _, rd⟩
  stop := fun ρ' H' hd' ex rh hl => by
    obtain ⟨vs, e, rv⟩ := rh.cel n _ q hl (ex.get hq)
    exact ⟨vs, SqL.of e, by rw [rv.length]; exact Nat.le_refl _⟩
theorem pi_seq {l : Expr} {tl : TE} (hl : PE X l tl) : PI X tg l (fun σ H R => tl σ H fun x H1 => (∃ a xs, x = .ref a ∧ SqL X.K H1 a xs ∧ (xs.length ≤ sizeLine → R (Itl X.K a) H1)) ∨ ∃ a xs, x = .ref a ∧ SqT X.K H1 a xs ∧ (xs.length ≤ sizeLine → R (Itt X.K a) H1)) := by
  intro pins s σ H R I h
  refine thn (hl pins s σ H _ I h) fun v s1 zq71 => ?_
  obtain ⟨x, H1, I1, r1, q1⟩ := zq71
  refine ?_
  rcases q1 with ⟨a, xs, e, hq, q⟩ | ⟨a, xs, e, hq, q⟩
  · subst e
    cases r1
    obtain ⟨its, rv, p, hz⟩ := I1.list hq
    refine wpAny_pyIter_list p.isList ?_
    refine ⟨s1.heap.objs.size, [s1.heap.objs.size], _, _, H1, rfl, I1.kept (t' := s1.toks) fun b o e => Heap.get?_push_of_some _ e, turn_list a _, ⟨_, Heap.get?_push_size _ rfl, rfl, rfl⟩, fun b hb => ?_, q hz⟩
    have e : b = s1.heap.objs.size := by simpa using hb
    subst e
    exact I1.fpOk (Nat.le_refl _) (I1.hok.fresh (Nat.le_refl _))
  · subst e
    cases r1
    obtain ⟨its, rv, p, hz⟩ := I1.tuple hq
    refine wpAny_pyIter_tuple (show s1.heap.IsTuple a its.toArray from p) ?_
    refine ⟨s1.heap.objs.size, [s1.heap.objs.size], _, _, H1, rfl, I1.kept (t' := s1.toks) fun b o e => Heap.get?_push_of_some _ e, turn_tuple a _, ⟨_, Heap.get?_push_size _ rfl, rfl, rfl⟩, fun b hb => ?_, q hz⟩
    have e : b = s1.heap.objs.size := by simpa using hb
    subst e
    exact I1.fpOk (Nat.le_refl _) (I1.hok.fresh (Nat.le_refl _))
theorem mi_seq {e : Expr} {f : EF} (h : ME X e f) : MI X tg e (iSeq f) := by
  refine PI.imp (pi_seq h) fun σ H R zq72 => ?_
  obtain ⟨ρ, σd, hd, rs, p⟩ := zq72
  refine ⟨ρ, σd, hd, rs, ?_⟩
  unfold iSeq at p
  cases e : f σd hd with
  | exc x h1 => rw [e] at p; exact p
  | bad => rw [e] at p; exact p
  | ok d hd1 =>
    rw [e] at p
    simp only [bind_ok] at p
    intro v H1 ρ1 ex1 rs1 rv
    cases d <;> try exact p.elim
    · rename_i l
      simp only [rD, RD] at rv
      obtain ⟨q, vs, rfl, hq, rvs⟩ := rv
      exact .inr ⟨q, vs, rfl, SqT.of hq, fun hz => p _ H1 ρ1 ex1 rs1 (walk_tup rs1.hp hq rvs hz)⟩
    · rename_i n
      simp only [rD, RD] at rv
      obtain ⟨a, ha, rfl⟩ := rv
      cases c : hd1[n]? with
      | none => simp only [c] at p; exact p.elim
      | some cell =>
        cases cell with
        | dct l => simp only [c] at p; exact p.elim
        | lst l =>
          simp only [c] at p
          obtain ⟨vs, hv, rvs⟩ := rs1.hp.cel n _ a c ha
          exact .inl ⟨a, vs, rfl, SqL.of hv, fun hz => p _ H1 ρ1 ex1 rs1 (walk_ref ha (by rw [rvs.length]; exact hz))⟩
    · rename_i l
      simp only [rD, RD] at rv
      obtain ⟨q, vs, rfl, hq, rvs⟩ := rv
      exact .inl ⟨q, vs, rfl, hq.sq, fun hz => p _ H1 ρ1 ex1 rs1 (walk_lit rs1.hp hq rvs hz)⟩
theorem mi_new {e : Expr} {la : LF} (h : MF X e la) : MI X tg e (iNew la) := by
  refine PI.imp (pi_seq h) fun σ H R zq73 => ?_
  obtain ⟨ρ, σd, hd, rs, p⟩ := zq73
  refine ⟨ρ, σd, hd, rs, ?_⟩
  unfold iNew at p
  cases e : la σd hd with
  | exc x h1 => rw [e] at p; exact p
  | bad => rw [e] at p; exact p
  | ok l hd1 =>
    rw [e] at p
    simp only [bind_ok] at p
    intro q vs H1 ρ1 ex1 rs1 hq0 hq hn rvs
    refine .inl ⟨q, vs, rfl, SqL.of hq, fun hz => p _ H1 ρ1 ex1 rs1 ⟨fun ρ' H' hd' i d ex rh _ hi => ?_, fun ρ' H' hd' ex rh _ => ⟨vs, SqL.of (ex.frame q _ hq hn), by rw [rvs.length]; exact Nat.le_refl _⟩, by rw [rvs.length]; exact hz⟩⟩
    obtain ⟨v, hv, rd⟩ := (rvs.mono (rs1.hp.kp ex)).get hi
    have sq : SqL X.K H' q vs := SqL.of (ex.frame q _ hq hn)
    refine ⟨⟨vs, v, sq, hv⟩, fun x H2 y => ?_⟩
    obtain ⟨rfl, y⟩ := y
    have := y vs sq
    rw [hv] at this
    cases this
    exact ⟨Same.refl _, rd⟩
theorem walk_range {K : PySem.W.Frag} {ρ : List Addr} {H : Hp} (lo : Int) (n : Nat) (hz : n ≤ 2000000) : Walk K ρ H (Itr lo n) ((List.range n).map fun k : Nat => .int (lo + k)) none where
  go := fun ρ' H' hd' i d ex rh _ hi => by
    have hin : i < n := by
      have := (List.getElem?_eq_some_iff.mp hi).1
      simpa using this
    refine ⟨hin, fun x H2 y => ?_⟩
    obtain ⟨rfl, rfl⟩ := y
    have e : d = .int (lo + i) := by simpa [hin] using hi.symm
    subst e
    exact ⟨Same.refl _, by simp only [RD]⟩
  stop := fun ρ' H' hd' ex rh _ => by
    show n ≤ _
    simp
  sz := by
    have : (2000000 : Nat) ≤ sizeLine := by rw [sizeLine_eq]; decide
    simp; omega
theorem mi_range {a : Expr} {f : EF} {p : Pos} (hg : Gl X "range") (hm : X.mg "range" = none) (ha : ME X a f) (hs : starEach [a] X.env = [(false, eval a X.env)] := by rfl) : MI X tg (.Call (.Name "range" p) [a] [] pos) (iRange f) := by
  refine PI.imp (pi_range1 hg hm (pa_cons ha pa_nil hs) hs) fun σ H R zq74 => ?_
  obtain ⟨ρ, σd, hd, rs, pp⟩ := zq74
  refine ⟨ρ, σd, hd, rs, ?_⟩
  unfold iRange at pp
  cases e : f σd hd with
  | exc x h1 => rw [e] at pp; exact pp
  | bad => rw [e] at pp; exact pp
  | ok d hd1 =>
    rw [e] at pp
    simp only [bind_ok] at pp
    intro v H1 ρ1 ex1 rs1 rv
    cases d <;> try exact pp.elim
    rename_i n
    simp only at pp
    simp only [rD, RD] at rv
    subst rv
    split at pp
    · rename_i hb
      refine ⟨n, rfl, by omega, by omega, pp _ H1 ρ1 ex1 rs1 ?_⟩
      have := walk_range (K := X.K) (ρ := ρ1) (H := H1) 0 n.toNat (by omega)
      simpa using this
    · exact pp.elim
end
end Fm
set_option linter.all false
namespace Fm
noncomputable section
open Classical
noncomputable def compG (G : Hd → Prop) (tg : GF) (cs : List TF) (e : EF) : List D → Sd → Hd → Res (List D)
  | [], _, h => if G h then .ok [] h else .bad
  | x :: xs, σ, h => if G h then match tg x σ with
      | some σ => (tests cs σ h).bind fun b h => if b then (e σ h).bind fun d h => (compG G tg cs e xs σ h).bind fun ds h => .ok (d :: ds) h
        else compG G tg cs e xs σ h
      | none => .bad
    else .bad
end
theorem compL_G {g : Option Nat} {all : List D} {tg : GF} {cs : List TF} {e : EF} : ∀ (xs : List D) (σ : Sd) (h : Hd), compL g all tg cs e xs σ h = compG (held g all) tg cs e xs σ h
  | [], _, h => by unfold compL compG; rfl
  | x :: xs, σ, h => by
    unfold compL compG
    by_cases hh : held g all h
    · rw [if_pos hh, if_pos hh]
      cases tg x σ with
      | none => rfl
      | some σ' => simp only [compL_G xs]
    · rw [if_neg hh, if_neg hh]
end Fm
set_option Elab.async false
set_option linter.all false
set_option maxRecDepth 100000
namespace Fm
open PySem PySem.Spec L2
section
variable {prog : Program} {w : World} {A : Around} {R : Result → Shared → Prop} {s : Shared}
theorem compLoop_any {elt target iter : Expr} {ifs : List Expr} {scope : Scope} {pos : Pos} {it acc : Value} {env : Env} {E : Value → Shared → Prop} (hE : ∀ e s, ¬ E e s) (I : Nat → Shared → Prop)
    (turn : ∀ n s, I n s → wpAny (model prog w) A (pyNext it) (fun r s₁ => match r with
      | none => R (.ok .next) s₁
      | some v => wpAny (model prog w) A (letOwnedTupleGo target it v) (fun _ s₁ => wpAny (model prog w) A (assign target env v) (fun _ s₂ =>
          wpAny (model prog w) A (forIn ifs true fun c r => if r = true then do let ok ← isTrue c env (eval c env); pure (ForInStep.yield ok) else pure (ForInStep.yield r)) (fun ok s₃ =>
            if ok = true then wpAny (model prog w) A (eval elt env) (fun x s₄ =>
              wpAny (model prog w) A (call (.builtin "list.append") [acc, x]) (fun _ s₅ => ∃ m, m < n ∧ I m s₅) E s₄) E s₃
            else ∃ m, m < n ∧ I m s₃) E s₂) E s₁) E s₁) E s)
    (n : Nat) (h : I n s) :
    codeAny (model prog w) A (.compLoop (.ListComp elt [⟨target, iter, ifs, 0⟩] scope pos) 0 it acc env) R s := by
  refine codeAny_loop rfl I (fun n s hI => ?_) n h
  show wpAny _ A ((compTurn (.ListComp elt [⟨target, iter, ifs, 0⟩] scope pos) 0 it acc env).onRaise (fun x => do noteFrame x env; theTreesLotGoes x)) _ _ s
  refine wpAny_noted ?_
  rw [compTurn_list]
  have no : ∀ {α : Type} {t : Sem α} {Q Q' : α → Shared → Prop} {E' : Value → Shared → Prop} {s : Shared}, wpAny (model prog w) A t Q E s → (∀ a s, Q a s → Q' a s) → wpAny (model prog w) A t Q' E' s := fun h hq => wpAny_mono h hq fun e s z => (hE e s z).elim
  refine wpAny_bind (wpAny_standAt (wpAny_bind (no (turn n s hI) fun r s₁ h₁ => ?_)))
  cases r with
  | none => exact wpAny_pure h₁
  | some v =>
    refine wpAny_bind (no h₁ fun _ s₁ h₁ => ?_)
    refine wpAny_bind (no h₁ fun _ s₂ h₂ => wpAny_bind (no h₂ fun ok s₃ h₃ => ?_))
    cases ok with
    | false => exact wpAny_pure ⟨rfl, h₃⟩
    | true =>
      exact wpAny_bind (wpAny_bind (no h₃ fun x s₄ h₄ => wpAny_bind (no h₄ fun _ s₅ h₅ => wpAny_pure (wpAny_pure ⟨rfl, h₅⟩))))
end
theorem closure_go {env : Env} : ∀ (l : List (Str × NameKind)) (cs : List (Str × Addr)), (∀ y ∈ l, y.2 = .free → ∃ c, env.cells.lookup y.1 = some c) →
    ∃ cl, (forIn l cs fun (x : Str × NameKind) (r : List (Str × Addr)) => if (x.2 == .free) = true then do let a ← cellOf env x.1; pure (ForInStep.yield ((x.1, a) :: r)) else pure (ForInStep.yield r)) = (pure cl : Sem _) ∧
      (∀ x c, cl.lookup x = some c → cs.lookup x = some c ∨ env.cells.lookup x = some c) ∧ (∀ y ∈ l, y.2 = .free → ∃ c, cl.lookup y.1 = some c) ∧ ∀ x c, cs.lookup x = some c → ∃ c', cl.lookup x = some c'
  | [], cs, _ => ⟨cs, by simp, fun x c h => .inl h, fun y hy => by simp at hy, fun x c h => ⟨c, h⟩⟩
  | (n, k) :: l, cs, hf => by
    by_cases hk : k = .free
    · subst hk
      obtain ⟨c, hc⟩ := hf (n, .free) (by simp) rfl
      obtain ⟨cl, h1, h2, h3, h4⟩ := closure_go l ((n, c) :: cs) fun y hy => hf y (by simp [hy])
      refine ⟨cl, ?_, fun x d h => ?_, fun y hy hyf => ?_, fun x d h => ?_⟩
      · rw [List.forIn_cons]
        simp only [beq_self_eq_true, if_true, cellOf, hc]
        exact h1
      · rcases h2 x d h with q | q
        · rw [List.lookup_cons] at q
          cases e : x == n with
          | true =>
            rw [e] at q
            have : x = n := by simpa using e
            subst this
            cases q
            exact .inr hc
          | false => rw [e] at q; exact .inl q
        · exact .inr q
      · rcases List.mem_cons.mp hy with e | e
        · subst e
          exact h4 n c (by simp [List.lookup_cons])
        · exact h3 y e hyf
      · by_cases e : x = n
        · subst e
          exact h4 x c (by simp [List.lookup_cons])
        · exact h4 x d (by rw [List.lookup_cons, beq_eq_false_iff_ne.mpr e]; exact h)
    · obtain ⟨cl, h1, h2, h3, h4⟩ := closure_go l cs fun y hy => hf y (by simp [hy])
      refine ⟨cl, ?_, h2, fun y hy hyf => ?_, h4⟩
      · rw [List.forIn_cons]
        have : (k == NameKind.free) = false := by simpa using hk
        simp only [this, Bool.false_eq_true, if_false]
        exact h1
      · rcases List.mem_cons.mp hy with e | e
        · subst e; exact absurd hyf hk
        · exact h3 y e hyf
theorem closure_of {scope : Scope} {env : Env} (hf : ∀ y ∈ scope.names, y.2 = .free → ∃ c, env.cells.lookup y.1 = some c) :
    ∃ cl, closureFor scope env = pure cl ∧ (∀ x c, cl.lookup x = some c → env.cells.lookup x = some c) ∧ ∀ y ∈ scope.names, y.2 = .free → ∃ c, cl.lookup y.1 = some c := by
  obtain ⟨cl, h1, h2, h3, _⟩ := closure_go scope.names [] hf
  refine ⟨cl, ?_, fun x c h => (h2 x c h).elim (fun z => by simp at z) id, h3⟩
  unfold closureFor
  have e : (forIn scope.names ([] : List (Str × Addr)) fun (x : Str × NameKind) (r : List (Str × Addr)) => if (x.2 == .free) = true then do let a ← cellOf env x.1; pure (ForInStep.yield ((x.1, a) :: r)) else pure (ForInStep.yield r)) = (pure cl : Sem _) := h1
  exact (congrArg (fun t : Sem (List (Str × Addr)) => t >>= fun r => pure r) e).trans rfl
noncomputable def cxC (X : Cx) (N : List Str) (scope : Scope) (cl : List (Str × Addr)) (C : Addr) (s : Shared) (H : Hp) (ex : List Addr) : Cx where
  prog := X.prog
  w := X.w
  K := X.K
  mg := X.mg
  base := X.base
  A := X.A
  N := N
  s₀ := s
  H₀ := H
  env := compEnvC scope cl C X.env
  outer := X.stack
  stack := X.stack
  ex := ex
  fn := fun _ => false
  calm := X.calm
  pn := []
  xe := fun _ _ => False
noncomputable def MTs (X : Cx) (ifs : List Expr) (cs : List TF) : Prop :=
  ∀ (pins : List (Addr × Obj)) (s : Shared) (σ : St) (H : Hp) (Q : Bool → Hp → Prop), Inv X pins σ H s → lift X.K rB (tests cs) σ H Q →
    wpAny (model X.prog X.w) X.A (forIn ifs true fun c r => if r = true then do let ok ← isTrue c X.env (eval c X.env); pure (ForInStep.yield ok) else pure (ForInStep.yield r)) (TP X pins σ Q) X.xe s
theorem mts_nil {X : Cx} : MTs X [] [] := fun pins s σ H Q I ⟨ρ, σd, hd, rs, p⟩ => wpAny_tests_nil ⟨H, I, p.here rs rfl⟩
theorem mts_one {X : Cx} {c : Expr} {t : TF} (h : MT X c t) : MTs X [c] [t] := fun pins s σ H Q I ⟨ρ, σd, hd, rs, p⟩ => wpAny_tests_one (h pins s σ H Q I ⟨ρ, σd, hd, rs, by
  have e : tests [t] σd hd = t σd hd := by
    simp only [tests]
    cases c : t σd hd with
    | ok b h' => cases b <;> simp
    | exc x h' => rfl
    | bad => rfl
  rw [e] at p
  exact p⟩)
theorem lookup_relabel {env : Env} {x : Str} : ∀ {names : List (Str × NameKind)} {k : NameKind}, (names.map fun (n, k) => if (k == NameKind.free && env.scope.kind == .function && env.kindOf n == some .cell) then (n, NameKind.cell) else (n, k)).lookup x = some k →
    ∃ k0, names.lookup x = some k0 ∧ (k = k0 ∨ (k0 = .free ∧ k = .cell))
  | [], _, h => by simp at h
  | (n, k') :: r, k, h => by
    have ih := @lookup_relabel env x r k
    have h' : List.lookup x ((if (k' == NameKind.free && env.scope.kind == .function && env.kindOf n == some .cell) = true then (n, NameKind.cell) else (n, k')) :: _) = some k := h
    cases hx : x == n with
    | true =>
      refine ⟨k', by simp [List.lookup_cons, hx], ?_⟩
      by_cases hc : (k' == NameKind.free && env.scope.kind == .function && env.kindOf n == some .cell) = true
      · rw [if_pos hc] at h'
        simp only [List.lookup_cons, hx, Option.some.injEq] at h'
        simp only [Bool.and_eq_true, beq_iff_eq] at hc
        exact .inr ⟨hc.1.1, h'.symm⟩
      · rw [if_neg hc] at h'
        simp only [List.lookup_cons, hx, Option.some.injEq] at h'
        exact .inl h'.symm
    | false =>
      have : List.lookup x ((n, k') :: r) = List.lookup x r := by simp [List.lookup_cons, hx]
      rw [this]
      refine ih ?_
      by_cases hc : (k' == NameKind.free && env.scope.kind == .function && env.kindOf n == some .cell) = true
      · rw [if_pos hc] at h'; simpa only [List.lookup_cons, hx] using h'
      · rw [if_neg hc] at h'; simpa only [List.lookup_cons, hx] using h'
theorem mem_of_lookupS {x : Str} {k : NameKind} : ∀ {l : List (Str × NameKind)}, l.lookup x = some k → (x, k) ∈ l
  | [], h => by simp at h
  | (n, k') :: r, h => by
    rw [List.lookup_cons] at h
    cases e : x == n with
    | true =>
      rw [e] at h
      have : x = n := by simpa using e
      subst this
      cases h
      exact List.mem_cons_self
    | false => rw [e] at h; exact List.mem_cons_of_mem _ (mem_of_lookupS h)
structure CScope (X : Cx) (scope : Scope) (own capn : List Str) (caps : List Nat) : Prop where
  kind : scope.kind = .function
  cell : ∀ y ∈ scope.names, y.2 ≠ .cell
  names : ∀ y ∈ scope.names, y.2 = .local → scope.names.lookup y.1 = some .local
  free : ∀ y ∈ scope.names, y.2 = .free → X.env.kindOf y.1 = some .cell ∨ X.env.kindOf y.1 = some .free
  cap : ∀ (j : Nat) x, capn[j]? = some x → ∃ i, caps[j]? = some i ∧ X.N[i]? = some x ∧ scope.names.lookup x = some .free
  len : capn.length = caps.length
section
variable {X : Cx} {pins : List (Addr × Obj)} {σ : St} {H1 : Hp} {s2 : Shared} {scope : Scope} {own capn : List Str} {caps : List Nat} {cl : List (Str × Addr)} {C : Addr} {ex : List Addr}
noncomputable def stC (own : List Str) (caps : List Nat) (σ : St) : St := List.replicate own.length none ++ caps.map fun i => (σ[i]?).join
theorem cxC_ok (I : Inv X pins σ H1 s2) (S : CScope X scope own capn caps) (hC : s2.heap.objs.size ≤ C) (hcl1 : ∀ x c, cl.lookup x = some c → X.env.cells.lookup x = some c) (hcl2 : ∀ y ∈ scope.names, y.2 = .free → ∃ c, cl.lookup y.1 = some c)
    (hf : ∀ b ∈ ex, FpOk X pins H1 b) (hlt : ∀ b ∈ ex, b < s2.heap.objs.size) : (cxC X (own ++ capn) scope cl C s2 H1 ex).Ok where
  mod := I.ok.mod
  kind := S.kind
  glob := I.ok.glob
  blt := I.ok.blt
  above := hC
  inj := fun x y c h1 h2 => I.ok.inj x y c (hcl1 x c h1) (hcl1 y c h2)
  has := fun x hx => by
    have key : ∀ k, (relabel scope X.env).names.lookup x = some k → k = .cell ∨ k = .free → ∃ c, cl.lookup x = some c := fun k h hk => by
      obtain ⟨k0, h0, q⟩ := lookup_relabel h
      have hm := mem_of_lookupS h0
      have : k0 = .free := by
        rcases q with q | q
        · subst q
          rcases hk with e | e
          · exact absurd e (S.cell _ hm)
          · exact e
        · exact q.1
      exact hcl2 _ hm this
    rcases hx with h | h
    · exact key _ h (.inl rfl)
    · exact key _ h (.inr rfl)
  cab := fun x c h => by cases h
  hd := I.ok.hd
  frames := I.ok.frames
  stk := .inl rfl
  exf := fun b hb => by
    obtain ⟨f0, f1, f2, f3, f4, f5⟩ := hf b hb
    exact ⟨fun z => absurd (Nat.lt_of_lt_of_le (hlt b hb) hC) (by rw [z]; exact Nat.lt_irrefl _), fun x c e => f4 x c (hcl1 x c e)⟩
  bs := I.bs
  bsz := Nat.le_trans I.ok.bsz I.sz
  noex := fun b o e hb => by
    obtain ⟨f0, f1, f2, f3, f4, f5⟩ := hf b hb
    rcases f3 with z | z
    · exact I.ok.noex b o e z
    · exact absurd (Nat.lt_of_lt_of_le (Heap.lt_size (I.ok.bs b o e).1) z) (Nat.lt_irrefl _)
  exfs := fun b hb hs => by
    obtain ⟨f0, f1, f2, f3, f4, f5⟩ := hf b hb
    rcases List.mem_cons.mp (I.stkSub b hs) with z | z
    · exact f1 z
    · exact f2 z
  funs := I.stack
  frf := I.stkFree
theorem relabel_free {env : Env} {x : Str} : ∀ {names : List (Str × NameKind)}, names.lookup x = some .free →
    (names.map fun (n, k) => if (k == NameKind.free && env.scope.kind == .function && env.kindOf n == some .cell) then (n, NameKind.cell) else (n, k)).lookup x = some .cell ∨
    (names.map fun (n, k) => if (k == NameKind.free && env.scope.kind == .function && env.kindOf n == some .cell) then (n, NameKind.cell) else (n, k)).lookup x = some .free
  | [], h => by simp at h
  | (n, k') :: r, h => by
    have ih := @relabel_free env x r
    show List.lookup x ((if (k' == NameKind.free && env.scope.kind == .function && env.kindOf n == some .cell) = true then (n, NameKind.cell) else (n, k')) :: _) = _ ∨ List.lookup x ((if (k' == NameKind.free && env.scope.kind == .function && env.kindOf n == some .cell) = true then (n, NameKind.cell) else (n, k')) :: _) = _
    cases hx : x == n with
    | true =>
      simp only [List.lookup_cons, hx, Option.some.injEq] at h
      subst h
      by_cases hc : (NameKind.free == NameKind.free && env.scope.kind == .function && env.kindOf n == some .cell) = true
      · rw [if_pos hc]; exact .inl (by simp only [List.lookup_cons, hx])
      · rw [if_neg hc]; exact .inr (by simp only [List.lookup_cons, hx])
    | false =>
      simp only [List.lookup_cons, hx] at h
      by_cases hc : (k' == NameKind.free && env.scope.kind == .function && env.kindOf n == some .cell) = true
      · rw [if_pos hc]; simp only [List.lookup_cons, hx]; exact ih h
      · rw [if_neg hc]; simp only [List.lookup_cons, hx]; exact ih h
theorem stC_get {i : Nat} {v : V} (h : (stC own caps σ)[i]? = some (some v)) : ∃ j k, i = own.length + j ∧ caps[j]? = some k ∧ σ[k]? = some (some v) := by
  unfold stC at h
  by_cases hi : i < own.length
  · rw [List.getElem?_append_left (by simpa using hi)] at h
    simp [hi] at h
  · rw [List.getElem?_append_right (by simpa using Nat.le_of_not_lt hi)] at h
    simp only [List.length_replicate, List.getElem?_map] at h
    cases c : caps[i - own.length]? with
    | none => rw [c] at h; cases h
    | some k =>
      rw [c] at h
      simp only [Option.map_some, Option.some.injEq] at h
      refine ⟨i - own.length, k, by omega, c, ?_⟩
      cases e : σ[k]? with
      | none => rw [e] at h; cases h
      | some o => rw [e] at h; simp only [Option.join_some] at h; rw [h]
theorem cxC_start (I : Inv X pins σ H1 s2) (S : CScope X scope own capn caps) (hC : s2.heap.objs.size < C) (hcl1 : ∀ x c, cl.lookup x = some c → X.env.cells.lookup x = some c) (hcl2 : ∀ y ∈ scope.names, y.2 = .free → ∃ c, cl.lookup y.1 = some c)
    (hf : ∀ b ∈ ex, FpOk X pins H1 b) (hlt : ∀ b ∈ ex, b < s2.heap.objs.size) {h1 : Heap} {m : Str → Option Value} {tk : Nat} (hn : h1.Ns C m) (hk : ∀ b o, s2.heap.get? b = some o → h1.get? b = some o)
    (hD : h1.get? s2.heap.objs.size = some { cls := .type "list", data := .seq #[] }) :
    Inv (cxC X (own ++ capn) scope cl C s2 H1 ex) [] (stC own caps σ) (upd H1 s2.heap.objs.size (.lst [])) { s2 with heap := h1, toks := tk } where
  ok := cxC_ok I S (Nat.le_of_lt hC) hcl1 hcl2 hf hlt
  os := rfl
  bare := I.bare
  base := Un.laid hk (Nat.le_refl _) (I.hok.fresh (Nat.le_refl _))
  loc := by
    refine ⟨m, hn, fun i x v e1 e2 e3 => ?_⟩
    obtain ⟨j, k, rfl, hj, hk'⟩ := stC_get e2
    have e1' : capn[j]? = some x := by
      have : (own ++ capn)[own.length + j]? = some x := e1
      rw [List.getElem?_append_right (by omega)] at this
      simpa using this
    obtain ⟨k2, q1, q2, q3⟩ := S.cap j x e1'
    rw [hj] at q1; cases q1
    have hm := mem_of_lookupS q3
    have kd := S.free _ hm rfl
    obtain ⟨m0, hn0, hl⟩ := I.loc
    obtain ⟨u, r, lk⟩ := hl k x v q2 hk' (.inr kd)
    refine ⟨u, r, .inr ⟨relabel_free q3, ?_⟩⟩
    rcases lk with ⟨z, _⟩ | ⟨_, c, hc, o, ho, hd⟩
    · rcases kd with e | e <;> (rw [z] at e; cases e)
    · obtain ⟨c', hc'⟩ := hcl2 _ hm rfl
      have := hcl1 _ _ hc'
      rw [hc] at this
      cases this
      exact ⟨c, hc', o, hk c o ho, hd⟩
  cell := fun x c e => by
    obtain ⟨v, o, ho, hd⟩ := I.cell x c (hcl1 x c e)
    exact ⟨v, o, hk c o ho, hd⟩
  free := by
    show upd H1 _ _ C = none
    rw [upd_ne (Nat.ne_of_gt hC)]
    exact I.hok.fresh (Nat.le_of_lt hC)
  freeC := fun x c e => by
    obtain ⟨v, o, ho, hd⟩ := I.cell x c (hcl1 x c e)
    rw [upd_ne (Nat.ne_of_lt (Heap.lt_size ho))]
    exact I.freeC x c (hcl1 x c e)
  pin := fun p hp => absurd (show p ∈ ([] : List (Addr × Obj)) from hp) (by simp)
  hok := I.hok.laid hk (Nat.le_refl _) ⟨Nat.zero_le _, [], 0, .nil, hD⟩
  len := by
    show (stC own caps σ).length = (own ++ capn).length
    simp [stC, S.len]
end
theorem RS.other {K : PySem.W.Frag} {ρ : List Addr} {H : Hp} {σd : Sd} {hd : Hd} {σ : St} {d : Addr} {ys zs : List V} (r : RS K ρ H σd hd σ) (h : H d = some (.lst ys)) (n : d ∉ ρ) : RS K ρ (upd H d (.lst zs)) σd hd σ ∧ Kp ρ H ρ (upd H d (.lst zs)) := by
  have k : Kp ρ H ρ (upd H d (.lst zs)) := ⟨fun _ _ h => h, fun a us e => by
    rw [upd_ne (fun z => by rw [z, h] at e; cases e)]; exact e, fun a o u e => by
    rw [upd_ne (fun z => by rw [z, h] at e; cases e)]; exact e⟩
  refine ⟨⟨⟨r.hp.len, r.hp.nd, fun m c a h1 h2 => (r.hp.cel m c a h1 h2).mono k (upd_ne fun z => n (by rw [← z]; exact List.mem_of_getElem? h2))⟩, r.st.mono k⟩, k⟩
theorem Ext.other {ρ ρ' : List Addr} {H H' : Hp} {d : Addr} {o : HO} (e : Ext ρ H ρ' H') (h : H d = none) : Ext ρ H ρ' (upd H' d o) :=
  ⟨e.pre, e.new, fun p u hp n => by rw [upd_ne (ne_of_none hp h)]; exact e.frame p u hp n⟩
theorem slot_caught {nl : Nat} {caps : List Nat} {σd : Sd} {i : Nat} {d : D} (h : slot (caught nl caps σd) i = some d) : ∃ j k, i = nl + j ∧ caps[j]? = some k ∧ slot σd k = some d := by
  unfold caught at h
  simp only [slot] at h
  by_cases hi : i < nl
  · rw [List.getElem?_append_left (by simpa using hi)] at h
    simp [hi] at h
  · rw [List.getElem?_append_right (by simpa using Nat.le_of_not_lt hi)] at h
    simp only [List.length_replicate, List.getElem?_map] at h
    cases c : caps[i - nl]? with
    | none => rw [c] at h; cases h
    | some k =>
      rw [c] at h
      simp only [Option.map_some] at h
      refine ⟨i - nl, k, by omega, c, ?_⟩
      simp only [slot]
      revert h
      cases e : σd[k]? with
      | none => simp
      | some o => cases o <;> simp
structure WalkG (K : PySem.W.Frag) (ρ0 : List Addr) (H0 : Hp) (J : It) (l : List D) (G : Hd → Prop) : Prop where
  go : ∀ ρ H hd (i : Nat) d, Ext ρ0 H0 ρ H → RH K ρ H hd → G hd → l[i]? = some d → J.go i H ∧ ∀ x H', J.yld i H x H' → Same H H' ∧ RD K ρ H' d x
  stop : ∀ ρ H hd, Ext ρ0 H0 ρ H → RH K ρ H hd → G hd → J.stop l.length H
  sz : l.length ≤ sizeLine
theorem Walk.g {K : PySem.W.Frag} {ρ : List Addr} {H : Hp} {J : It} {l : List D} {g : Option Nat} (w : Walk K ρ H J l g) : WalkG K ρ H J l (held g l) := ⟨w.go, w.stop, w.sz⟩
structure CD where
  i : Nat
  ys : List V
  acc : List D
  rest : List D
  ρ : List Addr
  σd : Sd
  hd : Hd
  H : Hp
  σ : St
structure CI (X : Cx) (own capn : List Str) (scope : Scope) (cl : List (Str × Addr)) (s2 : Shared) (C : Addr) (H1 : Hp) (ρ1 : List Addr) (fp : List Addr) (tn : Nat → Heap → Prop) (G : Hd → Prop) (g : GF) (cs : List TF) (e : EF) (l : List D) (hdF : Hd) (ds : List D) (d : CD) (s' : Shared) : Prop where
  le : d.i ≤ l.length
  inv : Inv (cxC X (own ++ capn) scope cl C s2 H1 fp) [] d.σ d.H s'
  st : tn d.i s'.heap
  fr : ∀ b ∈ fp, d.H b = none
  at' : d.H s2.heap.objs.size = some (.lst d.ys)
  out : s2.heap.objs.size ∉ d.ρ
  yl : d.ys.length ≤ d.i
  ex : Ext ρ1 H1 d.ρ d.H
  rs : RS X.K d.ρ d.H d.σd d.hd d.σ
  ac : RDs X.K d.ρ d.H d.acc d.ys
  run : compG G g cs e (l.drop d.i) d.σd d.hd = .ok d.rest hdF
  eq : d.acc ++ d.rest = ds
section
variable {X : Cx} {pins : List (Addr × Obj)} {σ : St} {H1 : Hp} {s2 : Shared} {scope : Scope} {own capn : List Str} {caps : List Nat} {cl : List (Str × Addr)}
theorem rst_caught {ρ1 : List Addr} {σd : Sd} {hd1 : Hd} (S : CScope X scope own capn caps) (r : RS X.K ρ1 H1 σd hd1 σ) {d : Addr} (hd : H1 d = none) : RS X.K ρ1 (upd H1 d (.lst [])) (caught own.length caps σd) hd1 (stC own caps σ) := by
  have sm := same_upd (o := HO.lst []) hd
  refine ⟨r.hp.same sm, ⟨by simp [stC, caught], fun i x e => ?_⟩⟩
  obtain ⟨j, k, rfl, hj, hs⟩ := slot_caught e
  obtain ⟨v, h1, h2⟩ := r.st.at' k x hs
  refine ⟨v, ?_, h2.mono (Kp.same sm)⟩
  unfold stC
  rw [List.getElem?_append_right (by simp)]
  simp [hj, h1]
theorem comp_core {elt tg iter : Expr} {ifs : List Expr} {pos : Pos} {it : Addr} {fp : List Addr} {tn : Nat → Heap → Prop} {J : It} {l : List D} {G : Hd → Prop} {g : GF} {cs : List TF} {e : EF} {ρ1 : List Addr} {σd : Sd} {hd1 hdF : Hd} {ds : List D} {E : Value → Shared → Prop} {RR : Value → Addr → Result → Shared → Prop}
    (hc : X.calm = true) (S : CScope X scope own capn caps) (hin : ∀ cl C s H ex, MG (cxC X (own ++ capn) scope cl C s H ex) tg g ∧ MTs (cxC X (own ++ capn) scope cl C s H ex) ifs cs ∧ ME (cxC X (own ++ capn) scope cl C s H ex) elt e)
    (I1 : Inv X pins σ H1 s2) (T : Turn X.prog X.w X.K tg J fp it tn) (st0 : tn 0 s2.heap) (hf : ∀ b ∈ fp, FpOk X pins H1 b) (rs1 : RS X.K ρ1 H1 σd hd1 σ) (wk : WalkG X.K ρ1 H1 J l G)
    (hcl1 : ∀ x c, cl.lookup x = some c → X.env.cells.lookup x = some c) (hcl2 : ∀ y ∈ scope.names, y.2 = .free → ∃ c, cl.lookup y.1 = some c)
    (run : compG G g cs e l (caught own.length caps σd) hd1 = .ok ds hdF)
    (hRR : ∀ C s' m H' ρ' vs, s2.heap.objs.size < C → s'.heap.Ns C m → Inv X pins σ H' s' → H' C = none → Ext ρ1 H1 ρ' H' → RH X.K ρ' H' hdF → H1 s2.heap.objs.size = none → H' s2.heap.objs.size = some (.lst vs) → s2.heap.objs.size ∉ ρ' → RDs X.K ρ' H' ds vs →
      RR (.ref s2.heap.objs.size) C (.ok .next) s') :
    wpAny (model X.prog X.w) X.A (newList []) (fun acc s₃ => wpAny (model X.prog X.w) X.A (newFunctionEnv scope X.env.globals cl [] X.env.qual none .none (some X.env)) (fun cenv s₄ =>
      codeAny (model X.prog X.w) X.A (.compStart (.ListComp elt [⟨tg, iter, ifs, 0⟩] scope pos) 0 (.ref it) acc { cenv with scope := relabel scope X.env }) (RR acc cenv.locals) s₄) E s₃) E s2 := by
  refine wpAny_newObj_type (wpAny_newFunctionEnv S.cell (by intro y hy; simp at hy) (fun h₁ hns₁ hsb₁ => ?_) S.kind)
  dsimp only at hns₁ hsb₁ ⊢
  generalize hH2 : s2.heap.push { cls := .type "list", dict := none, data := .seq ([] : List Value).toArray } = H2 at hns₁ hsb₁ ⊢
  have hC : H2.objs.size = s2.heap.objs.size + 1 := by rw [← hH2, Heap.size_push]
  have hDC : s2.heap.objs.size ≠ H2.objs.size := by rw [hC]; exact Nat.ne_of_lt (Nat.lt_succ_self _)
  have old : ∀ b o, s2.heap.get? b = some o → h₁.get? b = some o := fun b o e => hsb₁.extBut b o (by rw [hC]; exact Nat.ne_of_lt (Nat.lt_succ_of_lt (Heap.lt_size e))) (Heap.get?_push_of_some _ (hH2 ▸ Heap.get?_push_of_some _ e))
  have hacc : h₁.get? s2.heap.objs.size = some { cls := .type "list", data := .seq #[] } := hsb₁.extBut _ _ hDC (Heap.get?_push_of_some _ (hH2 ▸ Heap.get?_push_size _ rfl))
  have hlt : ∀ b ∈ fp, b < s2.heap.objs.size := fun b hb => by
    obtain ⟨o, ho, _⟩ := T.obj 0 _ st0 b hb
    exact Heap.lt_size ho
  have hCl : s2.heap.objs.size < H2.objs.size := by rw [hC]; exact Nat.lt_succ_self _
  have hD0 : H1 s2.heap.objs.size = none := I1.hok.fresh (Nat.le_refl _)
  have st1 : tn 0 h₁ := T.keep 0 _ _ st0 fun b hb o e => old b o e
  have hn1 : s2.heap.objs.size ∉ ρ1 := rs1.hp.free hD0
  obtain ⟨hG, hT, hE⟩ := hin cl H2.objs.size s2 H1 fp
  have I' := cxC_start (tk := s2.toks + ([] : List (Str × Value)).length) I1 S hCl hcl1 hcl2 hf hlt hns₁ old hacc
  have fpC : ∀ {pins' : List (Addr × Obj)} {H' : Hp}, (∀ b ∈ fp, H' b = none) → ∀ b ∈ fp, FpOk (cxC X (own ++ capn) scope cl H2.objs.size s2 H1 fp) [] H' b := fun {pins' H'} hn b hb => by
    obtain ⟨f0, f1, f2, f3, f4, f5⟩ := hf b hb
    have lt := hlt b hb
    refine ⟨hn b hb, fun z => absurd lt (by rw [show b = H2.objs.size from z, hC]; exact Nat.not_lt.mpr (Nat.le_succ _)), fun z => ?_, .inl hb, fun x c e => f4 x c (hcl1 x c e), fun p hp => absurd (show p ∈ ([] : List (Addr × Obj)) from hp) (by simp)⟩
    rcases List.mem_cons.mp (I1.stkSub b z) with q | q
    · exact f1 q
    · exact f2 q
  have loop : ∀ s₃ : Shared, s₃ = { s2 with heap := h₁, toks := s2.toks + ([] : List (Str × Value)).length } →
      codeAny (model X.prog X.w) X.A (.compLoop (.ListComp elt [⟨tg, iter, ifs, 0⟩] scope pos) 0 (.ref it) (.ref s2.heap.objs.size) (compEnvC scope cl H2.objs.size X.env)) (RR (.ref s2.heap.objs.size) H2.objs.size) s₃ := by
    rintro s₃ rfl
    refine compLoop_any (E := fun _ _ => False) (fun _ _ z => z) (fun n s' => ∃ d : CD, n = l.length - d.i ∧ CI X own capn scope cl s2 H2.objs.size H1 ρ1 fp tn G g cs e l hdF ds d s') ?_ l.length
      ⟨⟨0, [], [], ds, ρ1, _, hd1, _, _⟩, by simp, Nat.zero_le _, I', st1, fun b hb => ?_, upd_same, hn1, Nat.le_refl _, Ext.same (same_upd hD0), rst_caught S rs1 hD0, RDs.nil, by simpa using run, rfl⟩
    · rintro n s' ⟨⟨i, ys, acc, rest, ρ', σd', hd', H', σ'⟩, rfl, ci⟩
      have hil : i ≤ l.length := ci.le
      have I' : Inv (cxC X (own ++ capn) scope cl H2.objs.size s2 H1 fp) [] σ' H' s' := ci.inv
      have stn : tn i s'.heap := ci.st
      have hfp : ∀ b ∈ fp, H' b = none := ci.fr
      have hDy : H' s2.heap.objs.size = some (.lst ys) := ci.at'
      have hnD : s2.heap.objs.size ∉ ρ' := ci.out
      have hyl : ys.length ≤ i := ci.yl
      have ex : Ext ρ1 H1 ρ' H' := ci.ex
      have rs' : RS X.K ρ' H' σd' hd' σ' := ci.rs
      have racc : RDs X.K ρ' H' acc ys := ci.ac
      have hrun : compG G g cs e (l.drop i) σd' hd' = .ok rest hdF := ci.run
      have hds : acc ++ rest = ds := ci.eq
      by_cases hlt' : i < l.length
      · have hdi : l[i]? = some l[i] := by simp [hlt']
        rw [List.drop_eq_getElem_cons hlt'] at hrun
        unfold compG at hrun
        by_cases hh : G hd'
        · rw [if_pos hh] at hrun
          obtain ⟨go, yl⟩ := wk.go ρ' H' hd' i _ ex rs'.hp hh hdi
          cases c : g l[i] σd' with
          | none => rw [c] at hrun; cases hrun
          | some σd2 =>
            rw [c] at hrun
            simp only at hrun
            refine thn (T.item (cxC X (own ++ capn) scope cl H2.objs.size s2 H1 fp) rfl rfl rfl hc i [] s' σ' H' (fun _ _ => False) I' (fpC (pins' := []) hfp) stn go) fun r s₁ zq75 => ?_
            obtain ⟨u, hr, h4⟩ := zq75
            refine ?_
            subst hr
            refine thn h4 fun _ s5 zq76 => ?_
            obtain ⟨x, H5, I5, r5, y5, st5, fr5⟩ := zq76
            refine ?_
            obtain ⟨sm, rx⟩ := yl x H5 y5
            have I5' := I5.pinned (fpC (pins' := []) fr5) (T.obj _ _ st5)
            have rs5 := rs'.same sm
            have hDy5 := sm _ _ hDy
            refine thn (hG _ s5 σ' H5 x u (fun σ6 H6 => H6 = H5 ∧ RS X.K ρ' H5 σd2 hd' σ6) I5' r5 ⟨ρ', σd', hd', l[i], σd2, rs5, rx, c, fun σ6 rs6 => ⟨rfl, rs6⟩⟩) fun _ s6 zq77 => ?_
            obtain ⟨σ6, H6, I6, hH6, rs6⟩ := zq77
            refine ?_
            subst hH6
            cases c2 : tests cs σd2 hd' with
            | exc z h7 => rw [c2] at hrun; cases hrun
            | bad => rw [c2] at hrun; cases hrun
            | ok b hd7 =>
              rw [c2] at hrun
              simp only [bind_ok] at hrun
              refine thn (hT _ s6 σ6 H6 (fun b' H7 => b' = b ∧ ∃ ρ7, Ext ρ' H6 ρ7 H7 ∧ RS X.K ρ7 H7 σd2 hd7 σ6) I6 ⟨ρ', σd2, hd', rs6, by
                rw [c2]
                exact fun b' H7 ρ7 ex7 rs7 q => ⟨q.symm, ρ7, ex7, rs7⟩⟩) fun b' s7 ⟨H7, I7, hb', ρ7, ex7, rs7⟩ => ?_
              subst hb'
              have stay : ∀ {σ8 : St} {H8 : Hp} {s8 : Shared}, Inv (cxC X (own ++ capn) scope cl H2.objs.size s2 H1 fp) ([] ++ pinsAt fp s5.heap) σ8 H8 s8 → tn (i + 1) s8.heap ∧ ∀ b ∈ fp, H8 b = none := fun {σ8 H8 s8} I8 =>
                ⟨T.keep _ _ _ st5 fun b hb o e => (I8.pin (b, o) (List.mem_append_right _ (List.mem_append_right _ (mem_pinsAt hb e)))).1, fun b hb => by
                  obtain ⟨o, e, d⟩ := T.obj _ _ st5 b hb
                  exact (I8.pin (b, o) (List.mem_append_right _ (List.mem_append_right _ (mem_pinsAt hb e)))).2.1⟩
              have ex5 : Ext ρ' H' ρ7 H7 := (Ext.same sm).trans ex7
              have hDy7 : H7 s2.heap.objs.size = some (.lst ys) := ex5.frame _ _ hDy hnD
              have hnD7 := ex5.out hDy hnD
              have racc7 := racc.mono (rs'.hp.kp ex5)
              cases b' with
              | false =>
                simp only [Bool.false_eq_true, if_false] at hrun ⊢
                obtain ⟨st8, f8⟩ := stay I7
                exact ⟨l.length - (i + 1), by omega, ⟨i + 1, ys, acc, rest, ρ7, σd2, hd7, H7, σ6⟩, rfl, hlt', I7.unpinned, st8, f8, hDy7, hnD7, Nat.le_succ_of_le hyl, ex.trans ex5, rs7, racc7, hrun, hds⟩
              | true =>
                simp only [if_true] at hrun ⊢
                cases c3 : e σd2 hd7 with
                | exc z h7 => rw [c3] at hrun; cases hrun
                | bad => rw [c3] at hrun; cases hrun
                | ok d hd8 =>
                  rw [c3] at hrun
                  simp only [bind_ok] at hrun
                  cases c4 : compG G g cs e (l.drop (i + 1)) σd2 hd8 with
                  | exc z h7 => rw [c4] at hrun; cases hrun
                  | bad => rw [c4] at hrun; cases hrun
                  | ok rest' hd9 =>
                    rw [c4] at hrun
                    simp only [bind_ok, Res.ok.injEq] at hrun
                    obtain ⟨hrest, hF⟩ := hrun
                    subst hrest hF
                    refine thn (hE _ s7 σ6 H7 (fun v H8 => ∃ ρ8, Ext ρ7 H7 ρ8 H8 ∧ RS X.K ρ8 H8 σd2 hd8 σ6 ∧ RD X.K ρ8 H8 d v) I7 ⟨ρ7, σd2, hd7, rs7, by
                      rw [c3]
                      exact fun v H8 ρ8 ex8 rs8 q => ⟨ρ8, ex8, rs8, q⟩⟩) fun u8 s8 ⟨v8, H8, I8, r8, ρ8, ex8, rs8, rd8⟩ => ?_
                    have hDy8 : H8 s2.heap.objs.size = some (.lst ys) := ex8.frame _ _ hDy7 hnD7
                    have hnD8 := ex8.out hDy7 hnD7
                    refine thn (mt_append _ s8 σ6 H8 (.ref s2.heap.objs.size) [v8] (.ref s2.heap.objs.size) [u8] (fun _ H9 => H9 = upd H8 s2.heap.objs.size (.lst (ys ++ [v8]))) I8 rfl (.cons r8 .nil) ⟨_, ys, v8, rfl, rfl, hDy8, by have := wk.sz; omega, rfl⟩) fun u9 s9 zq78 => ?_
                    obtain ⟨v9, H9, I9, r9, q9⟩ := zq78
                    refine ?_
                    subst q9
                    obtain ⟨st9, f9⟩ := stay I9
                    obtain ⟨rs9, k9⟩ := rs8.other (zs := ys ++ [v8]) hDy8 hnD8
                    exact ⟨l.length - (i + 1), by omega, ⟨i + 1, ys ++ [v8], acc ++ [d], rest', ρ8, σd2, hd8, _, σ6⟩, rfl, hlt', I9.unpinned, st9, f9, upd_same, hnD8, by simp; exact hyl, (ex.trans (ex5.trans ex8)).other hD0, rs9,
                      ((racc7.mono (rs7.hp.kp ex8)).mono k9).append (RDs.cons (rd8.mono k9) RDs.nil), c4, by rw [← hds]; simp⟩
        · rw [if_neg hh] at hrun; cases hrun
      · have e0 : i = l.length := by omega
        subst e0
        rw [List.drop_length] at hrun
        unfold compG at hrun
        by_cases hh : G hd'
        · rw [if_pos hh] at hrun
          simp only [Res.ok.injEq] at hrun
          obtain ⟨hrest, hF⟩ := hrun
          subst hrest hF
          rw [List.append_nil] at hds
          subst hds
          refine thn (T.done (cxC X (own ++ capn) scope cl H2.objs.size s2 H1 fp) rfl rfl rfl hc _ [] s' σ' H' (fun _ _ => False) I' (fpC (pins' := []) hfp) stn (wk.stop ρ' H' hd' ex rs'.hp hh)) fun r s₁ zq79 => ?_
          obtain ⟨hr, I4⟩ := zq79
          refine ?_
          subst hr
          obtain ⟨m, hm, _⟩ := I4.loc
          refine hRR H2.objs.size s₁ m H' ρ' ys hCl hm ?_ I4.free ex rs'.hp hD0 hDy hnD racc
          exact I1.call' I4.os I4.base I4.hok I4.bare fun b hb => by
            obtain ⟨f0, f1, f2, f3, f4, f5⟩ := hf b hb
            exact ⟨f3, f1, f4, f5⟩
        · rw [if_neg hh] at hrun; cases hrun
    · show upd H1 _ _ b = none
      rw [upd_ne (Nat.ne_of_lt (hlt b hb))]
      exact (hf b hb).1
  exact codeAny_compStart_list (loop _ rfl) (T.self _ 0 _ _ _ st1 (loop _ rfl))
end
section
variable {X : Cx} {pos : Pos} {scope : Scope} {own capn : List Str} {caps : List Nat}
theorem mf_comp {elt tg iter : Expr} {ifs : List Expr} {f : IF} {g : GF} {cs : List TF} {e : EF} (hc : X.calm = true) (S : CScope X scope own capn caps) (hi : MI X tg iter f)
    (hin : ∀ cl C s H ex, MG (cxC X (own ++ capn) scope cl C s H ex) tg g ∧ MTs (cxC X (own ++ capn) scope cl C s H ex) ifs cs ∧ ME (cxC X (own ++ capn) scope cl C s H ex) elt e)
    (hs : ∀ x, foldedSetIterable iter X.env x = pure x := by intro _; rfl) : MF X (.ListComp elt [⟨tg, iter, ifs, 0⟩] scope pos) (lComp own.length caps f g cs e) := by
  intro pins s σ H Q I ⟨ρ, σd, hd, rs, p⟩
  rw [eval_ListComp]
  unfold lComp at p
  cases c : f σd hd with
  | exc z h7 => rw [c] at p; exact p.elim
  | bad => rw [c] at p; exact p.elim
  | ok q hd1 =>
    obtain ⟨l, gd⟩ := q
    rw [c] at p
    simp only [bind_ok] at p
    obtain ⟨cl, h1, hcl1, hcl2⟩ := closure_of (scope := scope) (env := X.env) fun y hy hyf => I.ok.has y.1 (S.free y hy hyf)
    refine wpAny_comprehension_free (use := none) rfl hs h1 S.kind S.names (thn (hi pins s σ H (fun J H1 => ∃ ρ1, Ext ρ H ρ1 H1 ∧ RS X.K ρ1 H1 σd hd1 σ ∧ Walk X.K ρ1 H1 J l gd) I ⟨ρ, σd, hd, rs, by
      rw [c]
      exact fun J H' ρ' ex rs' wk => ⟨ρ', ex, rs', wk⟩⟩) fun v s1 h1 => thn h1 fun itv s2 h2 => ?_)
    obtain ⟨it, fp, tn, J, H1, rfl, I1, T, st0, hf, ρ1, ex1, rs1, wk⟩ := h2
    cases c2 : compL gd l g cs e l (caught own.length caps σd) hd1 with
    | exc z h7 => rw [c2] at p; exact p.elim
    | bad => rw [c2] at p; exact p.elim
    | ok ds hdF =>
      rw [c2] at p
      refine comp_core (RR := fun acc C => compPost (model X.prog X.w) X.A X.xe none (EP X pins σ Q) acc C) hc S hin I1 T st0 hf rs1 wk.g hcl1 hcl2 ((compL_G _ _ _).symm.trans c2) fun C s' m H' ρ' vs hC hn I' hCn ex rh hD0 hD hnD rds => ?_
      refine ⟨m, hn, fun h' sb => ⟨.ref s2.heap.objs.size, H', ?_, rfl, ?_⟩⟩
      · refine I'.turned (it := C) (t' := s'.toks) (fun b o hb e => (sb.2 b hb).trans e) hCn ?_ (.inr (Nat.le_of_lt (Nat.lt_of_le_of_lt I1.sz hC))) (fun x c e z => ?_) fun q hq z => ?_
        · exact Nat.ne_of_gt (Nat.lt_trans I1.lt hC)
        · obtain ⟨v, o, ho, hd⟩ := I1.cell x c e
          exact absurd (Nat.lt_trans (Heap.lt_size ho) hC) (by rw [z]; exact Nat.lt_irrefl _)
        · exact absurd (Nat.lt_trans (Heap.lt_size (I1.pin q hq).1) hC) (by rw [z]; exact Nat.lt_irrefl _)
      · exact p _ vs H' ρ' (ex1.trans ex) (rs.ext (ex1.trans ex) rh) (ex1.fresh hD0 (rs1.hp.free hD0)) hD hnD rds
theorem ms_setC {i : Nat} {x : Str} {pos' : Pos} {elt tg iter : Expr} {ifs : List Expr} {f : IF} {g : GF} {cs : List TF} {e : EF} {cpos : Pos} (hN : X.N.Nodup) (hi' : X.N[i]? = some x) (hx : Loc X.env.scope x) (hc : X.calm = true) (S : CScope X scope own capn caps) (hi : MI X tg iter f)
    (hin : ∀ cl C s H ex, MG (cxC X (own ++ capn) scope cl C s H ex) tg g ∧ MTs (cxC X (own ++ capn) scope cl C s H ex) ifs cs ∧ ME (cxC X (own ++ capn) scope cl C s H ex) elt e)
    (hsw : swapsWith (.ListComp elt [⟨tg, iter, ifs, 0⟩] scope cpos) (some (.Name x pos')) pos.line X.env = pure true := by rfl)
    (hs : ∀ x, foldedSetIterable iter X.env x = pure x := by intro _; rfl) (hf' : X.fn x = true ∨ X.env.scope.names.lookup x = some .local := by first | exact .inl rfl | exact .inr rfl | assumption) :
    MS X (.Assign [.Name x pos'] (.ListComp elt [⟨tg, iter, ifs, 0⟩] scope cpos) pos) (sSet (gN i) (fNew (lComp own.length caps f g cs e))) := by
  intro pins s σ H En I ⟨ρ, σd, hd, rs, p⟩
  rw [exec_Assign_Name_used _ _ _ _ hsw]
  refine wpAny_bind (wpAny_standAt ?_)
  show wpAny _ _ ((comprehension _ scope X.env _ (newList []) _ _ _ >>= fun _ => pure ()) >>= fun _ => pure Flow.next) _ _ _
  have p1 := PostS.outE (σ := σ) p
  unfold fNew lComp at p1
  cases c : f σd hd with
  | exc z h7 => rw [c] at p1; exact p1.elim
  | bad => rw [c] at p1; exact p1.elim
  | ok q hd1 =>
    obtain ⟨l, gd⟩ := q
    rw [c] at p1
    simp only [bind_ok] at p1
    obtain ⟨cl, h1, hcl1, hcl2⟩ := closure_of (scope := scope) (env := X.env) fun y hy hyf => I.ok.has y.1 (S.free y hy hyf)
    refine wpAny_bind (wpAny_bind (wpAny_comprehension_free (Q := fun _ s' => wpAny (model X.prog X.w) X.A (pure ()) (fun _ s' => wpAny (model X.prog X.w) X.A (pure Flow.next) (SP X pins En) X.xe s') X.xe s') (use := some (assign (.Name x pos') X.env)) rfl hs h1 S.kind S.names (thn (hi pins s σ H (fun J H1 => ∃ ρ1, Ext ρ H ρ1 H1 ∧ RS X.K ρ1 H1 σd hd1 σ ∧ Walk X.K ρ1 H1 J l gd) I ⟨ρ, σd, hd, rs, by
      rw [c]
      exact fun J H' ρ' ex rs' wk => ⟨ρ', ex, rs', wk⟩⟩) fun v s1 h1 => thn h1 fun itv s2 h2 => ?_)))
    obtain ⟨it, fp, tn, J, H1, rfl, I1, T, st0, hf, ρ1, ex1, rs1, wk⟩ := h2
    cases c2 : compL gd l g cs e l (caught own.length caps σd) hd1 with
    | exc z h7 => rw [c2] at p1; exact p1.elim
    | bad => rw [c2] at p1; exact p1.elim
    | ok ds hdF =>
      rw [c2] at p1
      simp only [bind_ok] at p1
      by_cases hz : ds.length ≤ SZ
      · rw [if_pos hz] at p1
        refine comp_core (RR := fun acc C => compPost (model X.prog X.w) X.A X.xe (some (assign (.Name x pos') X.env)) _ acc C) hc S hin I1 T st0 hf rs1 wk.g hcl1 hcl2 ((compL_G _ _ _).symm.trans c2) fun C s' m H' ρ' vs hC hn I' hCn ex rh hD0 hD hnD rds => ?_
        refine wpAny_assign_Name (store_ok2 I' hN hi' hx (v := .ref s2.heap.objs.size) rfl (fun s'' I'' hsb => ?_) hf')
        have hCl : C ≠ X.env.locals := Nat.ne_of_gt (Nat.lt_trans I1.lt hC)
        have hCc : ∀ y c, X.env.cells.lookup y = some c → c ≠ C := fun y c e z => by
          obtain ⟨v, o, ho, hd⟩ := I1.cell y c e
          exact absurd (Nat.lt_trans (Heap.lt_size ho) hC) (by rw [z]; exact Nat.lt_irrefl _)
        refine ⟨m, ?_, fun h' sb => wpAny_pure (wpAny_pure ?_)⟩
        · obtain ⟨a, sa, ha⟩ := hsb
          refine hn.sameBut sa ?_
          rcases ha with z | z
          · rw [z]; exact hCl
          · exact Ne.symm (hCc _ _ z)
        · have I3 : Inv X pins (σ.set i (some (.ref s2.heap.objs.size))) H' { s'' with heap := h' } := I''.turned (it := C) (t' := s''.toks) (fun b o hb e => (sb.2 b hb).trans e) hCn hCl (.inr (Nat.le_of_lt (Nat.lt_of_le_of_lt I1.sz hC))) hCc fun q hq z =>
            absurd (Nat.lt_trans (Heap.lt_size (I1.pin q hq).1) hC) (by rw [z]; exact Nat.lt_irrefl _)
          have ex' : Ext ρ H ρ' H' := ex1.trans ex
          have rh' := rh.alloc hD hnD rds
          have hH0 : H s2.heap.objs.size = none := ex1.fresh hD0 (rs1.hp.free hD0)
          have exA : Ext ρ H (ρ' ++ [s2.heap.objs.size]) H' := ⟨by obtain ⟨t, rfl⟩ := ex'.pre; exact ⟨t ++ [s2.heap.objs.size], by simp⟩, fun a ha => by
            rcases List.mem_append.mp ha with z | z
            · exact ex'.new a z
            · simp at z; subst z; exact .inr hH0, ex'.frame⟩
          obtain ⟨ρ2, d2, hd2, e2, rs2, rd2, pn⟩ := p1 (.ref s2.heap.objs.size) H' (ρ' ++ [s2.heap.objs.size]) exA (rs.ext exA rh') (by
            simp only [rD, RD]
            refine ⟨s2.heap.objs.size, ?_, rfl⟩
            rw [← rh.len]
            simp)
          exact ⟨_, H', I3, pn _ H' ρ2 Ext.refl ⟨rs2.hp, rs2.st.set i rd2⟩⟩
      · rw [if_neg hz] at p1; exact p1.elim
end
end Fm
set_option Elab.async false
set_option linter.all false
set_option maxRecDepth 100000
namespace Fm
open PySem PySem.Spec L2 PyProof.Rows
mutual
noncomputable def rfs (k : Nat) : D → Prop
  | .ref n => n < k
  | .tup l => rfss k l
  | .lit l => rfss k l
  | .exn _ l => rfss k l
  | _ => True
noncomputable def rfss (k : Nat) : List D → Prop
  | [] => True
  | x :: xs => rfs k x ∧ rfss k xs
end
section
variable {K : PySem.W.Frag} {ρ ρ' t : List Addr} {H H' : Hp} {hd hd' : Hd}
mutual
theorem RD.rfs : ∀ {d : D} {v : V}, RD K ρ H d v → Fm.rfs ρ.length d
  | .non, _, _ => by simp only [Fm.rfs]
  | .bl _, _, _ => by simp only [Fm.rfs]
  | .int _, _, _ => by simp only [Fm.rfs]
  | .str _, _, _ => by simp only [Fm.rfs]
  | .tup l, _, h => by
    simp only [RD] at h; obtain ⟨p, vs, _, _, h2⟩ := h
    simp only [Fm.rfs]; exact RDs.rfs h2
  | .lit l, _, h => by
    simp only [RD] at h; obtain ⟨p, vs, _, _, h2⟩ := h
    simp only [Fm.rfs]; exact RDs.rfs h2
  | .ref n, _, h => by
    simp only [RD] at h; obtain ⟨a, h1, _⟩ := h
    simp only [Fm.rfs]; exact (List.getElem?_eq_some_iff.mp h1).1
  | .exn _ _, _, h => by simp only [RD] at h
theorem RDs.rfs : ∀ {l : List D} {vs : List V}, RDs K ρ H l vs → Fm.rfss ρ.length l
  | [], _, _ => by simp only [Fm.rfss]
  | d :: ds, _, h => by
    simp only [RDs] at h; obtain ⟨v, r, _, h1, h2⟩ := h
    simp only [Fm.rfss]; exact ⟨RD.rfs h1, RDs.rfs h2⟩
end
mutual
theorem RD.cut : ∀ {d : D} {v : V}, RD K (ρ ++ t) H d v → Fm.rfs ρ.length d → RD K ρ H d v
  | .non, _, h, _ => by simp only [RD] at h ⊢; exact h
  | .bl _, _, h, _ => by simp only [RD] at h ⊢; exact h
  | .int _, _, h, _ => by simp only [RD] at h ⊢; exact h
  | .str _, _, h, _ => by simp only [RD] at h ⊢; exact h
  | .tup l, _, h, q => by
    simp only [RD] at h ⊢; simp only [Fm.rfs] at q
    obtain ⟨p, vs, e, h1, h2⟩ := h
    exact ⟨p, vs, e, h1, RDs.cut h2 q⟩
  | .lit l, _, h, q => by
    simp only [RD] at h ⊢; simp only [Fm.rfs] at q
    obtain ⟨p, vs, e, h1, h2⟩ := h
    exact ⟨p, vs, e, h1, RDs.cut h2 q⟩
  | .ref n, _, h, q => by
    simp only [RD] at h ⊢; simp only [Fm.rfs] at q
    obtain ⟨a, h1, h2⟩ := h
    exact ⟨a, by rwa [List.getElem?_append_left q] at h1, h2⟩
  | .exn _ _, _, h, _ => by simp only [RD] at h
theorem RDs.cut : ∀ {l : List D} {vs : List V}, RDs K (ρ ++ t) H l vs → Fm.rfss ρ.length l → RDs K ρ H l vs
  | [], _, h, _ => by simp only [RDs] at h ⊢; exact h
  | d :: ds, _, h, q => by
    simp only [RDs] at h ⊢; simp only [Fm.rfss] at q
    obtain ⟨v, r, e, h1, h2⟩ := h
    exact ⟨v, r, e, RD.cut h1 q.1, RDs.cut h2 q.2⟩
end
mutual
theorem pure_rfs {k : Nat} : ∀ {d : D}, pure? d = true → Fm.rfs k d
  | .non, _ => by simp only [Fm.rfs]
  | .bl _, _ => by simp only [Fm.rfs]
  | .int _, _ => by simp only [Fm.rfs]
  | .str _, _ => by simp only [Fm.rfs]
  | .tup l, h => by simp only [pure?] at h; simp only [Fm.rfs]; exact pures_rfs h
  | .lit l, h => by simp only [pure?] at h; simp only [Fm.rfs]; exact pures_rfs h
  | .exn _ l, h => by simp only [pure?] at h; simp only [Fm.rfs]; exact pures_rfs h
  | .ref _, h => by simp only [pure?] at h; cases h
theorem pures_rfs {k : Nat} : ∀ {l : List D}, pures l = true → Fm.rfss k l
  | [], _ => by simp only [Fm.rfss]
  | x :: xs, h => by
    simp only [pures, Bool.and_eq_true] at h
    simp only [Fm.rfss]; exact ⟨pure_rfs h.1, pures_rfs h.2⟩
end
noncomputable def cellR (k : Nat) : Cell → Prop
  | .lst l => Fm.rfss k l
  | .dct l => Fm.rfss k (l.map (·.2))
theorem RC.rfs {c : Cell} {a : Addr} (h : RC K ρ H c a) : cellR ρ.length c := by
  cases c with
  | lst l => obtain ⟨vs, _, h2⟩ := h; exact h2.rfs
  | dct l => obtain ⟨vs, _, _, h2⟩ := h; exact h2.rfs
theorem RC.cut {c : Cell} {a : Addr} (h : RC K (ρ ++ t) H c a) (q : cellR ρ.length c) : RC K ρ H c a := by
  cases c with
  | lst l => obtain ⟨vs, h1, h2⟩ := h; exact ⟨vs, h1, h2.cut q⟩
  | dct l => obtain ⟨vs, h1, h2, h3⟩ := h; exact ⟨vs, h1, h2, h3.cut q⟩
theorem cellPure_rfs {k : Nat} {c : Cell} (h : cellPure c = true) : cellR k c := by
  cases c with
  | lst l => exact pures_rfs h
  | dct l =>
    have : ∀ l : List (Int × D), (l.all fun p => pure? p.2) = true → Fm.rfss k (l.map (·.2)) := by
      intro l
      induction l with
      | nil => intro _; simp only [List.map_nil, Fm.rfss]
      | cons x l ih => intro h; simp only [List.all_cons, Bool.and_eq_true] at h; simp only [List.map_cons, Fm.rfss]; exact ⟨pure_rfs h.1, ih h.2⟩
    exact this l h
theorem RH.back (r : RH K ρ H hd) (r' : RH K (ρ ++ t) H' hd') (o : oldOk hd hd') : RH K ρ H' (hd'.take hd.length) := by
  have hl : (ρ ++ t).length = hd'.length := r'.len
  refine ⟨by rw [List.length_take, ← hl, List.length_append, ← r.len]; omega, (List.nodup_append.mp r'.nd).1, fun n c a h1 h2 => ?_⟩
  have hn : n < hd.length := by rw [← r.len]; exact (List.getElem?_eq_some_iff.mp h2).1
  rw [List.getElem?_take_of_lt hn] at h1
  have q := r'.cel n c a h1 (by rw [List.getElem?_append_left (by rw [r.len]; exact hn)]; exact h2)
  refine q.cut ?_
  rcases o n c hn h1 with z | z
  · exact (r.cel n c a z h2).rfs
  · exact cellPure_rfs z
noncomputable def PostR (K : PySem.W.Frag) (ρ : List Addr) (H : Hp) (r : Res D) (Q : VK) : Prop := match r with
  | .ok d hd' => ∀ v H' ρ', Ext ρ H ρ' H' → RH K ρ' H' hd' → RD K ρ' H' d v → Q v H'
  | _ => False
noncomputable def spF (K : PySem.W.Frag) (F : Fn) (np : Nat) : Sp := fun vs H Q _ => ∃ ρ hd ds, RH K ρ H hd ∧ RDs K ρ H ds vs ∧ ds.length = np ∧ PostR K ρ H (F ds hd) Q
theorem Ext.short (e : Ext ρ H (ρ ++ t) H') : Ext ρ H ρ H' := ⟨⟨[], by simp⟩, fun _ h => .inl h, e.frame⟩
theorem PostR.letGo {r : Res D} {Q : VK} (rh : RH K ρ H hd) (p : PostR K ρ H (letGo hd r) Q) : PostR K ρ H r Q := by
  cases r with
  | exc x h' => exact p
  | bad => exact p
  | ok d h' =>
    intro v H' ρ' ex rh' rd
    simp only [Fm.letGo] at p
    split at p
    · rename_i hc
      obtain ⟨t, rfl⟩ := ex.pre
      exact p v H' ρ ex.short (rh.back rh' hc.2) (rd.cut (pure_rfs hc.1))
    · exact p v H' ρ' ex rh' rd
theorem PostR.runB {n : Nat} {b : SF} {ds : List D} {Q : VK} (p : PostR K ρ H (runB n b ds hd) Q) : PostS K ρ H (b (ds.map some ++ List.replicate (n - ds.length) none) hd) { nx := fun _ H' => Q .non H', rt := Q } := by
  unfold Fm.runB at p
  cases e : b (ds.map some ++ List.replicate (n - ds.length) none) hd with
  | nx σ h' => rw [e] at p; exact fun σ' H' ρ' ex rs => p .non H' ρ' ex rs.hp (by simp only [RD])
  | rt d h' => rw [e] at p; exact p
  | bk σ h' => rw [e] at p; exact p.elim
  | ct σ h' => rw [e] at p; exact p.elim
  | exc x σ h' => rw [e] at p; exact p.elim
  | bad => rw [e] at p; exact p.elim
theorem rst_start {N : List Str} {ds : List D} {vs : List V} (r : RDs K ρ H ds vs) : RSt K ρ H (ds.map some ++ List.replicate (N.length - ds.length) none) (L2.start N vs) := by
  have hl := r.length
  refine ⟨by simp [L2.start, hl], fun i d e => ?_⟩
  simp only [slot] at e
  by_cases hi : i < ds.length
  · rw [List.getElem?_append_left (by simpa using hi)] at e
    simp only [List.getElem?_map, List.getElem?_eq_getElem hi, Option.map_some] at e
    cases e
    obtain ⟨v, hv, q⟩ := r.get (i := i) (d := ds[i]) (by simp [hi])
    refine ⟨v, ?_, q⟩
    unfold L2.start
    rw [List.getElem?_append_left (by simp; omega)]
    simp [hv]
  · rw [List.getElem?_append_right (by simpa using Nat.le_of_not_lt hi)] at e
    simp only [List.getElem?_replicate] at e
    by_cases hq : i - (List.map some ds).length < N.length - ds.length
    · simp only [hq, if_true] at e; cases e
    · simp only [hq, if_false] at e; cases e
end
structure Def (P : Program) (w : World) (K : PySem.W.Frag) (mg : Str → Option Value) (base : Heap) (x : Str) (k np : Nat) (F : Fn) : Prop where
  ex : ∃ f fd ps, mg x = some (.ref f) ∧ PySem.W.keepIn K (.ref f) = true ∧ Binds K fd ps [] ∧ FnOk P w K mg base CX0 k f fd ps (spF K F np)
section
variable {P : Program} {w : World} {K : PySem.W.Frag} {mg : Str → Option Value} {base : Heap}
theorem fn_mk {x : Str} {st : Stmt} {f : Addr} {fd : FuncData} {N ps : List Str} {k : Nat} {b : SF} (F : Fun K x x st f fd) (S : FnScope N ps (defScope st))
    (body : ∀ (cdv : Value) (A : Around) (outer : List Env) (s : Shared) (H : Hp) (E : XK), Room k (A.deeper (envOfC x (defScope st) s.heap.objs.size f cdv)) → MSs (cxOf CX0 P w K mg base N x (defScope st) f cdv A outer s H E).nox (defBody st) b) :
    FnOk P w K mg base CX0 (k + 1) f fd ps (spF K (mkFn ps.length N.length b) ps.length) := by
  refine F.ok S (fun vs H Q E ⟨ρ, hd, ds, rh, rd, hl, p⟩ => by rw [← rd.length]; exact hl) fun cdv A outer s H vs Q E hr zq80 => ?_
  obtain ⟨ρ, hd, ds, rh, rd, hl, p⟩ := zq80
  refine ⟨_, body cdv A outer s H E hr, ρ, _, hd, ⟨rh, rst_start rd⟩, ?_⟩
  simp only [mkFn, hl, if_true] at p
  exact (PostR.letGo rh p).runB
theorem Def.mk' {x : Str} {f : Addr} {fd : FuncData} {ps : List Str} {k np : Nat} {F : Fn} (hm : mg x = some (.ref f)) (hk : PySem.W.keepIn K (.ref f) = true) (hb : Binds K fd ps []) (h : FnOk P w K mg base CX0 k f fd ps (spF K F np)) : Def P w K mg base x k np F := ⟨f, fd, ps, hm, hk, hb, h⟩
end
section
variable {X : Cx} {pos p : Pos}
theorem me_call {x : Str} {k np : Nat} {F : Fn} {e : Expr} {es : List Expr} {r : LF} (hd : Def X.prog X.w X.K X.mg X.base x k np F) (hr : Room k X.A) (hg : Gl X x) (ha : MA X (e :: es) r) (hnp : ∀ ds h d h', F ds h = .ok d h' → ds.length = np)
    (hdb : (x == ("__debug__" : Str)) = false := by decide) (he : starEach (e :: es) X.env = (false, eval e X.env) :: starEach es X.env := by rfl) (hpl : (backTo pos (starEach es X.env)).any (·.1) = false := by rfl) :
    ME X (.Call (.Name x p) (e :: es) [] pos) (fCall F r) := by
  obtain ⟨f, fd, ps, h1, h2, h3, h4⟩ := hd.ex
  refine PE.imp (pe_call h4 hr hg h1 h2 h3 .nil pass0 ha hdb he hpl) fun σ H Q zq81 => ?_
  obtain ⟨ρ, σd, hd, rs, pp⟩ := zq81
  refine ⟨ρ, σd, hd, rs, ?_⟩
  refine (Post.bind (R := rDs X.K) pp).imp fun vs H1 zq82 => ?_
  obtain ⟨ρ1, ds, hd1, e1, rs1, rv, p1⟩ := zq82
  refine ?_
  rw [List.append_nil]
  cases c : F ds hd1 with
  | exc z h' => rw [c] at p1; exact p1.elim
  | bad => rw [c] at p1; exact p1.elim
  | ok d hd2 =>
    rw [c] at p1
    refine ⟨ρ1, hd1, ds, rs1.hp, rv, hnp _ _ _ _ c, ?_⟩
    rw [c]
    exact fun v H' ρ' ex rh rd => p1 v H' ρ' ex (rs1.ext ex rh) rd
theorem mkFn_np {np n : Nat} {b : SF} : ∀ ds h d h', mkFn np n b ds h = .ok d h' → ds.length = np := by
  intro ds h d h' e
  unfold mkFn at e
  split at e
  · assumption
  · cases e
end
theorem walkF {l : PySem.W.OpenLaw} {q : Program} {loose : List Str} {XP : (Str → Option Value) → Heap → Prop} {YP : World → Heap → Prop} {d : DefRec} {K : Params → PySem.W.Frag} {F : Fn} {k : Nat} {x : Str} (hn : l.most = some 63) (hdf : d.params.defaults = []) (hr : Room k callerA)
    (hY : ∀ (w : World) (h : Heap), YP w h → (K w.params).In h)
    (hF : ∀ (w : World) (mg : Str → Option Value) (fa : Addr) (h : Heap), (K w.params).In h → h.Ns mainGlobals mg → mg d.name = some (.ref fa) →
      ∃ fd : FuncData, (∀ (s : Shared) (u : Value), BindsTo s fd ⟨[u], []⟩ [(x, u)]) ∧ ∀ base : Heap, (K w.params).In base → base.Ns mainGlobals mg → FnOk l.prog w (K w.params) mg base CX0 k fa fd [x] (spF (K w.params) F 1))
    (law : ∀ ns : List Int, ns.length ≤ 63 → ∃ h, F [.lit (ns.map .int)] [] = .ok (.bl true) h) :
    PySem.W.WalkO q loose XP YP l.row.toRowW d [] (fun f vs => PySem.call f vs) := by
  refine L2.walk_of (n := 63) (k := k) (x := x) (CX := fun _ => CX0) (sp := fun w => spF (K w.params) F 1) hn (by decide) hdf hr hY hF (fun w H a ns hl hO hS => ?_) fun _ _ _ _ _ z => z
  obtain ⟨h, e⟩ := law ns hl
  have hL : LitAt (K w.params) H a (ns.map V.int) := by
    rcases hS with (z | ⟨o, z⟩) | z
    · rcases hO a with y | ⟨o, xs, y⟩ <;> (rw [z] at y; cases y)
    · exact .inl ⟨o, z⟩
    · exact .inr z
  have hI : RDs (K w.params) [] H (ns.map D.int) (ns.map V.int) := by
    clear hl hS e hL law
    induction ns with
    | nil => exact RDs.nil
    | cons n ns ih => exact RDs.cons (by simp only [RD]) ih
  refine ⟨[], [], [.lit (ns.map .int)], ⟨rfl, List.nodup_nil, fun n c a h1 => by simp at h1⟩, RDs.cons (by simp only [RD]; exact ⟨a, _, rfl, hL, hI⟩) RDs.nil, rfl, ?_⟩
  rw [e]
  intro v H' ρ' ex rh rd
  simpa only [RD] using rd
end Fm
set_option Elab.async false
set_option linter.all false
set_option maxRecDepth 100000
namespace Fm
open PySem PySem.Spec L2
open PyProof.Rows (Subscript_ tail_any)
noncomputable def tyS : Ty → String
  | .int => "int" | .bool => "bool" | .tuple => "tuple" | .list => "list" | .str => "str"
theorem ty_meta (t : Ty) : typeOf (.type (tyS t)) = pure (.type "type") := by
  cases t
  · exact F.isi_meta_int
  · exact F.isi_meta_bool
  · exact F.isi_meta_tuple
  · exact F.isi_meta_list
  · exact F.isi_meta_str
theorem ty_none (t : Ty) : isSubtype (.type "NoneType") (.type (tyS t)) = pure false := by cases t <;> (rw [isSubtype_type]; kernel_rfl)
theorem ty_int {t : Ty} (h : t ≠ .int) : isSubtype (.type "int") (.type (tyS t)) = pure false := by cases t <;> first | exact absurd rfl h | (rw [isSubtype_type]; kernel_rfl)
theorem ty_bool {t : Ty} (h : t ≠ .int) (h2 : t ≠ .bool) : isSubtype (.type "bool") (.type (tyS t)) = pure false := by cases t <;> first | exact absurd rfl h | exact absurd rfl h2 | (rw [isSubtype_type]; kernel_rfl)
theorem ty_str {t : Ty} (h : t ≠ .str) : isSubtype (.type "str") (.type (tyS t)) = pure false := by cases t <;> first | exact absurd rfl h | (rw [isSubtype_type]; kernel_rfl)
theorem ty_tuple {t : Ty} (h : t ≠ .tuple) : isSubtype (.type "tuple") (.type (tyS t)) = pure false := by cases t <;> first | exact absurd rfl h | (rw [isSubtype_type]; kernel_rfl)
theorem ty_list {t : Ty} (h : t ≠ .list) : isSubtype (.type "list") (.type (tyS t)) = pure false := by cases t <;> first | exact absurd rfl h | (rw [isSubtype_type]; kernel_rfl)
theorem ty_dict (t : Ty) : isSubtype (.type "dict") (.type (tyS t)) = pure false := by cases t <;> (rw [isSubtype_type]; kernel_rfl)
theorem ty_self (t : Ty) : isSubtype (.type (tyS t)) (.type (tyS t)) = pure true := by cases t <;> (rw [isSubtype_type]; kernel_rfl)
theorem ty_bool_int : isSubtype (.type "bool") (.type (tyS .int)) = pure true := by rw [isSubtype_type]; kernel_rfl
theorem ty_ne {n : String} {t : Ty} (h : n ≠ tyS t) : (Value.type n == Value.type (tyS t)) = false := by
  rw [beq_eq_false_iff_ne]; intro e; cases e; exact h rfl
theorem bEqF {a b : Ty} (h : a ≠ b) : (a == b) = false := by cases a <;> cases b <;> first | rfl | exact absurd rfl h
section
variable {X : Cx} {pos p : Pos}
theorem isi_at {pins : List (Addr × Obj)} {σ : St} {H : Hp} {s : Shared} {ρ : List Addr} {hd : Hd} {d : D} {v : V} {u : Value} {t : Ty} {b : Bool} {Q : Value → Shared → Prop} {E : Value → Shared → Prop} (I : Inv X pins σ H s) (rh : RH X.K ρ H hd) (rd : RD X.K ρ H d v) (r : RelV v u) (e : isTy hd t d = some b)
    (q : ∀ s', Inv X pins σ H s' → Q (.bool b) s') : wpAny (model X.prog X.w) X.A (call (.builtin "isinstance") [u, .type (tyS t)]) Q E s := by
  have q0 := q s I
  have q1 := q { s with toks := s.toks + 1 } (I.tok _)
  have yes : ∀ {n : String}, s.TypeIs u n → isSubtype (.type n) (.type (tyS t)) = pure true → Q (.bool true) s → wpAny (model X.prog X.w) X.A (call (.builtin "isinstance") [u, .type (tyS t)]) Q E s := fun h1 h2 h3 => call_isinstance (isinstance_true (ty_meta t) h2) ⟨h1, h3⟩
  cases d <;> simp only [RD] at rd <;> simp only [isTy] at e
  · subst rd; cases r; cases e
    exact call_isinstance (isinstance_false_none (by cases t <;> exact ty_ne (by decide)) (ty_meta t) (ty_none t)) q1
  · subst rd; cases r
    by_cases h1 : t = .int
    · subst h1; cases e; exact yes (n := "bool") rfl ty_bool_int q0
    · by_cases h2 : t = .bool
      · subst h2; cases e; exact yes (n := "bool") rfl (ty_self .bool) q0
      · rw [bEqF h1, bEqF h2] at e; cases e
        exact call_isinstance (isinstance_false_bool (by cases t <;> first | exact absurd rfl h1 | exact absurd rfl h2 | exact ty_ne (by decide)) (ty_meta t) (ty_bool h1 h2)) q1
  · subst rd; obtain ⟨tk, rfl⟩ := r
    by_cases h1 : t = .int
    · subst h1; cases e; exact yes (n := "int") rfl (ty_self .int) q0
    · rw [bEqF h1] at e; cases e
      exact call_isinstance (isinstance_false_int (by cases t <;> first | exact absurd rfl h1 | exact ty_ne (by decide)) (ty_meta t) (ty_int h1)) q1
  · subst rd; obtain ⟨tk, rfl⟩ := r
    by_cases h1 : t = .str
    · subst h1; cases e; exact yes (n := "str") rfl (ty_self .str) q0
    · rw [bEqF h1] at e; cases e
      exact call_isinstance (isinstance_false_str (by cases t <;> first | exact absurd rfl h1 | exact ty_ne (by decide)) (ty_meta t) (ty_str h1)) q1
  · obtain ⟨a, vs, rfl, ha, _⟩ := rd
    cases r
    obtain ⟨its, _, o, ho, hc, _⟩ := tup_at I.hok ha
    by_cases h1 : t = .tuple
    · subst h1; cases e; exact yes (n := "tuple") ⟨o, ho, hc⟩ (ty_self .tuple) q0
    · rw [bEqF h1] at e; cases e
      exact call_isinstance (isinstance_false_tuple (by cases t <;> first | exact absurd rfl h1 | exact ty_ne (by decide)) (ty_meta t) (ty_tuple h1)) ⟨⟨o, ho, hc⟩, q1⟩
  · rename_i n
    obtain ⟨a, ha, rfl⟩ := rd
    cases r
    cases c : hd[n]? with
    | none => rw [c] at e; cases e
    | some cell =>
      rw [c] at e
      cases cell with
      | lst l =>
        obtain ⟨vs, hv, _⟩ := rh.cel n _ a c ha
        obtain ⟨z, its, k, _, ho⟩ := I.hok a _ hv
        by_cases h1 : t = .list
        · subst h1; cases e; exact yes (n := "list") ⟨_, ho, rfl⟩ (ty_self .list) q0
        · simp only [bEqF h1] at e; cases e
          exact call_isinstance (isinstance_false_list (by cases t <;> first | exact absurd rfl h1 | exact ty_ne (by decide)) (ty_meta t) (ty_list h1)) ⟨⟨_, ho, rfl⟩, q1⟩
      | dct l =>
        obtain ⟨vs, hv, _, _⟩ := rh.cel n _ a c ha
        obtain ⟨_, _, _, _, o, _, _, ho, ex, _⟩ := I.hok a _ hv
        cases e
        exact call_isinstance (isinstance_false_dict (by cases t <;> exact ty_ne (by decide)) (ty_meta t) (ty_dict t)) ⟨⟨o, ho, ex.1⟩, q1⟩
  · obtain ⟨a, vs, rfl, ha, _⟩ := rd
    cases r
    obtain ⟨its, _, pl, _⟩ := I.list ha.sq
    obtain ⟨o, ho, hc, _⟩ := pl.isList
    by_cases h1 : t = .list
    · subst h1; cases e; exact yes (n := "list") ⟨o, ho, hc⟩ (ty_self .list) q0
    · simp only [bEqF h1] at e; cases e
      exact call_isinstance (isinstance_false_list (by cases t <;> first | exact absurd rfl h1 | exact ty_ne (by decide)) (ty_meta t) (ty_list h1)) ⟨⟨o, ho, hc⟩, q1⟩
noncomputable def rIsi (K : PySem.W.Frag) (t : Ty) : List V → Hp → VK → Prop := fun xs H Q => ∃ ρ hd d v b, xs = [v, .ty (tyS t)] ∧ RH K ρ H hd ∧ RD K ρ H d v ∧ isTy hd t d = some b ∧ Q (.bl b) H
theorem call_isi (t : Ty) : CallR X (.builtin "isinstance") (rIsi X.K t) := by
  intro pins s σ H xs us Q I r h
  obtain ⟨ρ, hd, d, v, b, rfl, rh, rd, e, q⟩ := h
  obtain ⟨u, u2, rfl, ru, ru2⟩ := Vals.two r
  cases (show u2 = Value.type (tyS t) from ru2)
  exact isi_at I rh rd ru e fun s' I' => ⟨.bl b, H, I', rfl, q⟩
theorem me_isTy {t : Ty} {a : Expr} {fa : EF} {p2 : Pos} {n : Str} (hg : Gl X "isinstance") (hm : X.mg "isinstance" = none) (hg2 : Gl X n) (hm2 : X.mg n = none) (hv : bootBuiltins n = some (.type (tyS t))) (ha : ME X a fa)
    (hs : starEach [a, .Name n p2] X.env = (false, eval a X.env) :: starEach [.Name n p2] X.env := by rfl) (hs2 : starEach [.Name n p2] X.env = (false, eval (.Name n p2) X.env) :: starEach [] X.env := by rfl) (hn : n ≠ "__name__" := by decide) (hd : (n == ("__debug__" : Str)) = false := by decide) :
    ME X (.Call (.Name "isinstance" p) [a, .Name n p2] [] pos) (fIsTy t fa) := by
  refine PE.imp (pe_callB (call_isi t) hg hm (by decide +kernel) (pa_cons ha (pa_cons (pe_bltn (v := .ty (tyS t)) hg2 hm2 hv rfl hn hd) pa_nil hs2) hs) (he := hs)) fun σ H Q zq83 => ?_
  obtain ⟨ρ, σd, hd, rs, pp⟩ := zq83
  refine ⟨ρ, σd, hd, rs, ?_⟩
  refine (Post.bind (R := rD X.K) pp).imp fun v H1 zq84 => ?_
  obtain ⟨ρ1, d, hd1, e1, rs1, rv, p1⟩ := zq84
  refine ?_
  cases c : isTy hd1 t d with
  | none => simp only [c] at p1; exact p1.elim
  | some b => simp only [c] at p1; exact ⟨ρ1, hd1, d, v, b, rfl, rs1.hp, rv, c, p1.here rs1 (by simp only [rD, RD])⟩
theorem op_add2 : OpR X (binaryOp .Add) (fun x y H Q => rI0 (fun i j => .int (i + j)) x y H Q ∨ rCatT X.K x y H Q) := op_add.or op_catT
theorem og_add {K : PySem.W.Frag} : Og K oAdd (fun x y H Q => rI0 (fun i j => .int (i + j)) x y H Q ∨ rCatT K x y H Q) := by
  intro ρ H σd hd σ d k v w Q rs rv rw' pp
  cases d <;> try exact pp.elim
  · cases k <;> try exact pp.elim
    simp only [RD] at rv rw'
    exact .inl ⟨_, _, rv, rw', pp.here rs (by simp only [rD, RD])⟩
  · rename_i l
    cases l with
    | nil => exact pp.elim
    | cons x xs =>
      cases k <;> try exact pp.elim
      rename_i ys
      simp only [oAdd] at pp
      split at pp
      · rename_i hz
        simp only [RD] at rv rw'
        obtain ⟨a, vs, rfl, ha, rvs⟩ := rv
        obtain ⟨b, ws, rfl, hb, rws⟩ := rw'
        refine .inr ⟨a, b, vs, ws, rfl, rfl, SqT.of ha, SqT.of hb, ?_, ?_, fun z => ?_, fun _ q hq => ?_⟩
        · intro z; subst z; have := rvs.length; simp at this
        · rw [← rvs.length, ← rws.length]; exact sz_line hz
        · subst z
          have hy : ys = [] := by have := rws.length; simpa using this
          subst hy
          exact pp.here rs (by simp only [rD, RD]; exact ⟨a, vs, rfl, ha, by simpa using rvs⟩)
        · have sm := same_upd (o := HO.tup (vs ++ ws)) hq
          exact pp.at (Ext.same sm) (rs.same sm) (by simp only [rD, RD]; exact ⟨q, _, rfl, upd_same, (RDs.append rvs rws).mono (Kp.same sm)⟩)
      · exact pp.elim
theorem mf_list {a : Expr} {la : LF} (hg : Gl X "list") (hm : X.mg "list" = none) (ha : MQ X a la) (hs : starEach [a] X.env = (false, eval a X.env) :: starEach [] X.env := by rfl) : MF X (.Call (.Name "list" p) [a] [] pos) la := by
  refine PE.imp (pe_callTy call_list_of hg hm (by decide +kernel) (pa_cons ha pa_nil hs) (he := hs)) fun σ H Q zq85 => ?_
  obtain ⟨ρ, σd, hd, rs, pp⟩ := zq85
  refine ⟨ρ, σd, hd, rs, ?_⟩
  cases e : la σd hd with
  | exc x h' => rw [e] at pp; exact pp
  | bad => rw [e] at pp; exact pp
  | ok l hd1 =>
    rw [e] at pp
    intro v H1 ρ1 e1 rs1 ⟨q, vs, hv, sq, rvs⟩
    subst hv
    exact ⟨q, vs, rfl, sq.imp id SqT.of, pp.mk e1 rs1 rvs⟩
noncomputable def MO (X : Cx) (e : Option Expr) (f : OF) : Prop := PO X e (lift X.K rO f)
theorem mo_no : MO X none pNo := fun pins s σ H Q I ⟨ρ, σd, hd, rs, pp⟩ => po_none pins s σ H Q I (pp.here rs rfl)
theorem mo_at {e : Expr} {f : EF} (h : ME X e f) : MO X (some e) (pAt f) := fun pins s σ H Q I ⟨ρ, σd, hd, rs, pp⟩ => po_some h pins s σ H Q I ⟨ρ, σd, hd, rs, (Post.bind (R := rD X.K) pp).imp fun v H1 ⟨ρ1, d, hd1, e1, rs1, rv, p1⟩ => by
  cases d <;> try exact p1.elim
  simp only [rD, RD] at rv
  exact ⟨_, rv, p1.here rs1 rfl⟩⟩
theorem cut_rel {K : PySem.W.Frag} {ρ : List Addr} {H : Hp} {l : List D} {vs : List V} {lo hi : Option Int} (r : RDs K ρ H l vs) : RDs K ρ H (cut l lo hi) (cutV vs lo hi) := by
  have e : ∀ (n d : Nat) (o : Option Int), Fm.sIx n d o = HT.sIx n d o := fun n d o => by cases o <;> rfl
  unfold cut cutV
  rw [r.length, e, e]
  exact (r.drop _).take _
theorem me_slice {a : Expr} {fa : EF} {lo hi : Option Expr} {fl fh : OF} {p2 : Pos} (ha : ME X a fa) (hl : MO X lo fl) (hh : MO X hi fh) : ME X (.Subscript a (.Slice lo hi none p2) pos) (fSlice fa fl fh) := by
  refine PE.imp (pe_slice (SlR.or sl_list sl_tup) ha hl hh) fun σ H Q zq86 => ?_
  obtain ⟨ρ, σd, hd, rs, pp⟩ := zq86
  refine ?_
  unfold fSlice at pp
  refine ⟨ρ, σd, hd, rs, ?_⟩
  refine (Post.bind (R := rD X.K) pp).imp fun v H1 zq87 => ?_
  obtain ⟨ρ1, d, hd1, e1, rs1, rv, p1⟩ := zq87
  refine ?_
  refine ⟨ρ1, σd, hd1, rs1, ?_⟩
  refine (Post.bind (R := rO) p1).imp fun o1 H2 zq88 => ?_
  obtain ⟨ρ2, o1', hd2, e2, rs2, q2, p2⟩ := zq88
  refine ?_
  cases q2
  refine ⟨ρ2, σd, hd2, rs2, ?_⟩
  refine (Post.bind (R := rO) p2).imp fun o2 H3 zq89 => ?_
  obtain ⟨ρ3, o2', hd3, e3, rs3, q3, p3⟩ := zq89
  refine ?_
  cases q3
  have rv3 := (rv.mono (rs1.hp.kp e2)).mono (rs2.hp.kp e3)
  have list : ∀ l, lstOf hd3 d = some l → Post X.K (rD X.K) ρ3 H3 σd σ (.ok (.ref hd3.length) (hd3 ++ [.lst (cut l o1 o2)])) Q → rSlL X.K v o1 o2 H3 Q := fun l c p => by
    obtain ⟨q, vs, hv, sq, rvs⟩ := lst_rel rs3.hp rv3 c
    refine ⟨q, vs, hv, sq, fun q' hq => ?_⟩
    have sm := same_upd (o := HO.lst (cutV vs o1 o2)) hq
    have nq := rs3.hp.free hq
    have rh := (rs3.hp.same sm).alloc upd_same nq ((cut_rel rvs).mono (Kp.same sm))
    have ex : Ext ρ3 H3 (ρ3 ++ [q']) (upd H3 q' (.lst (cutV vs o1 o2))) := Ext.alloc hq
    refine p.at ex (rs3.ext ex rh) ?_
    simp only [rD, RD]
    exact ⟨q', by rw [← rs3.hp.len]; simp, rfl⟩
  cases d with
  | tup l =>
    simp only at p3
    split at p3
    · exact p3.elim
    · rename_i hw
      simp only [RD] at rv3
      obtain ⟨q, vs, rfl, hq, rvs⟩ := rv3
      have e : ∀ (n d : Nat) (o : Option Int), Fm.sIx n d o = HT.sIx n d o := fun n d o => by cases o <;> rfl
      refine .inr ⟨q, vs, rfl, SqT.of hq, by rw [← rvs.length, ← e, ← e]; exact hw, fun q' hq' => ?_⟩
      have sm := same_upd (o := HO.tup (cutV vs o1 o2)) hq'
      exact p3.at (Ext.same sm) (rs3.same sm) (by simp only [rD, RD]; exact ⟨q', _, rfl, upd_same, (cut_rel rvs).mono (Kp.same sm)⟩)
  | ref n =>
    simp only at p3
    cases c : lstOf hd3 (.ref n) with
    | none => rw [c] at p3; exact p3.elim
    | some l => rw [c] at p3; exact .inl (list l c p3)
  | lit l' =>
    simp only at p3
    cases c : lstOf hd3 (.lit l') with
    | none => rw [c] at p3; exact p3.elim
    | some l => rw [c] at p3; exact .inl (list l c p3)
  | _ => exact p3.elim
theorem me_app {o e : Expr} {fo fe : EF} {apos cpos : Pos} (ho : ME X o fo) (he : ME X e fe) (hbase : attributeBase o "append" X.env (eval o X.env) = eval o X.env := by rfl)
    (hfew : ((backTo cpos (starEach [e] X.env)).all (fun x => !x.1) && (backToKw cpos (keywordEach [] X.env)).all (fun x => x.1.isSome)
      && decide (([e] : List Expr).length + ([] : List Keyword).length + (if ([] : List Keyword).isEmpty then 0 else 1) < 30)) = true := by rfl)
    (hline : (apos.endLine == cpos.line) = true := by rfl) (hs : starEach [e] X.env = (false, eval e X.env) :: starEach [] X.env := by rfl) :
    ME X (.Call (.Attribute o "append" apos) [e] [] cpos) (fApp fo fe) := by
  refine PE.imp (pe_bm PySem.F.plainAttrs_list PySem.F.slot_list_append PySem.F.type_list_append mt_append ho (pa_cons he pa_nil hs) hbase hfew hline hs) fun σ H Q zq90 => ?_
  obtain ⟨ρ, σd, hd, rs, pp⟩ := zq90
  refine ⟨ρ, σd, hd, rs, ?_⟩
  unfold fApp at pp
  refine (Post.bind (R := rD X.K) pp).imp fun v H1 zq91 => ?_
  obtain ⟨ρ1, d, hd1, e1, rs1, rv, p1⟩ := zq91
  refine ?_
  cases d <;> try exact p1.elim
  rename_i n
  simp only [rD, RD] at rv
  obtain ⟨a, ha, rfl⟩ := rv
  simp only at p1
  cases c1 : hd1[n]? with
  | none => rw [c1] at p1; exact p1.elim
  | some cell1 =>
    rw [c1] at p1
    cases cell1 with
    | dct l => exact p1.elim
    | lst l1 =>
      obtain ⟨vs, hv, _⟩ := rs1.hp.cel n _ a c1 ha
      simp only at p1
      refine ⟨.inl ⟨rfl, vs, SqL.of hv⟩, ρ1, σd, hd1, rs1, ?_⟩
      refine (Post.bind (R := rD X.K) p1).imp fun w H2 zq92 => ?_
      obtain ⟨ρ2, k, hd2, e2, rs2, rw', p2⟩ := zq92
      refine ?_
      simp only [oApp] at p2
      cases c : hd2[n]? with
      | none => rw [c] at p2; exact p2.elim
      | some cell =>
        rw [c] at p2
        cases cell with
        | dct l => exact p2.elim
        | lst l =>
          simp only at p2
          split at p2
          · rename_i hz
            have ha2 := e2.get ha
            obtain ⟨vs2, hv2, rvs2⟩ := rs2.hp.cel n _ a c ha2
            refine ⟨a, vs2, w, rfl, rfl, hv2, ?_, ?_⟩
            · rw [← rvs2.length]; exact Nat.lt_of_lt_of_le hz (by rw [sizeLine_eq]; decide)
            · have hn : n < hd2.length := (List.getElem?_eq_some_iff.mp c).1
              have rh := rs2.hp.write ha2 hn (RDs.append rvs2 (RDs.cons rw' RDs.nil))
              have ex : Ext ρ2 H2 ρ2 (upd H2 a (.lst (vs2 ++ [w]))) := Ext.write (List.mem_of_getElem? ha2)
              exact p2.at ex (rs2.ext ex rh) (by simp only [rD, RD])
          · exact p2.elim
theorem me_clear {o : Expr} {fo : EF} {apos cpos : Pos} (ho : ME X o fo) (hbase : attributeBase o "clear" X.env (eval o X.env) = eval o X.env := by rfl) (hline : (apos.endLine == cpos.line) = true := by rfl) :
    ME X (.Call (.Attribute o "clear" apos) [] [] cpos) (fClear fo) := by
  refine PE.imp (pe_bm0 PySem.F.plainAttrs_list PySem.F.slot_list_clear PySem.F.type_list_clear mt_clear ho hbase hline) fun σ H Q zq93 => ?_
  obtain ⟨ρ, σd, hd, rs, pp⟩ := zq93
  refine ⟨ρ, σd, hd, rs, ?_⟩
  unfold fClear fUn at pp
  refine (Post.bind (R := rD X.K) pp).imp fun v H1 zq94 => ?_
  obtain ⟨ρ1, d, hd1, e1, rs1, rv, p1⟩ := zq94
  refine ?_
  cases d <;> try exact p1.elim
  rename_i n
  simp only [rD, RD] at rv
  obtain ⟨a, ha, rfl⟩ := rv
  simp only [uClear] at p1
  cases c1 : hd1[n]? with
  | none => rw [c1] at p1; exact p1.elim
  | some cell1 =>
    rw [c1] at p1
    cases cell1 with
    | dct l => exact p1.elim
    | lst l1 =>
      obtain ⟨vs, hv, _⟩ := rs1.hp.cel n _ a c1 ha
      simp only at p1
      refine ⟨.inl ⟨rfl, vs, SqL.of hv⟩, a, vs, rfl, rfl, hv, ?_⟩
      have hn : n < hd1.length := (List.getElem?_eq_some_iff.mp c1).1
      have rh := rs1.hp.write ha hn RDs.nil
      have ex : Ext ρ1 H1 ρ1 (upd H1 a (.lst [])) := Ext.write (List.mem_of_getElem? ha)
      exact p1.at ex (rs1.ext ex rh) (by simp only [rD, RD])
end
end Fm
set_option Elab.async false
set_option linter.all false
set_option maxRecDepth 100000
namespace Fm
open PySem PySem.Spec L2
open AutoSeq1 (wpAny_loadPart')
open PyProof.Rows (Call_)
theorem tyNe {a b : String} (h : Value.type a = Value.type b) (n : a ≠ b) : False := by injection h with h; exact n h
theorem meets_enumerate_newT (l : Addr) (items : Array Value) (n : Nat) (dct : Option Addr) (sl : Array (Option Value)) :
    Meets (Builtin.«enumerate.__new__» ⟨[.type "enumerate", .ref l], []⟩) (fun _ R s => s.heap.get? l = some { cls := .type "tuple", dict := dct, data := .seq items n, slots := sl } ∧
      R (.ok (.ret (.ref (s.heap.push { cls := .type "tuple_iterator", data := .fields #[.ref l, .int 0 0] }).objs.size)))
        { s with heap := (s.heap.push { cls := .type "tuple_iterator", data := .fields #[.ref l, .int 0 0] }).push { cls := .type "enumerate", data := .fields #[.none, .bool false, .ref s.heap.objs.size, rawInt 0, .none, .none] } }) :=
  .of_wp fun prog w A R s h => by
    obtain ⟨hp, g, d, tk, os⟩ := s; obtain ⟨hl, h⟩ := h
    have hsub := sub_enumerate
    have hL : Heap.IsTuple (Shared.heap ⟨hp, g, d, tk, os⟩) l items := ⟨_, hl, rfl, n, rfl⟩
    wp_walk using wpAny_loadPart' hl
    refine wpAny_stack_any fun st => wpAny_pure ?_
    split
    · rename_i c _ _ _ _ _
      cases (c == Value.type "enumerate")
      · wp_walk using wpAny_loadPart' hl, wpAny_pyIter_tuple hL
        exact ⟨_, rfl, h⟩
      · wp_walk using wpAny_loadPart' hl, wpAny_pyIter_tuple hL
        exact ⟨_, rfl, h⟩
    · wp_walk using wpAny_loadPart' hl, wpAny_pyIter_tuple hL
      exact ⟨_, rfl, h⟩
section
variable {prog : Program} {w : World} {A : Around} {E : Value → Shared → Prop} {s : Shared}
theorem call_enumerate_tuple {l : Addr} {items : Array Value} {Q : Value → Shared → Prop} (hL : s.heap.IsTuple l items)
    (h : ∀ h', IsEnum h' (s.heap.objs.size + 1) s.heap.objs.size 0 .none → h'.IsTupleIter s.heap.objs.size l 0 → h'.objs.size = s.heap.objs.size + 2 →
      (∀ b o, s.heap.get? b = some o → h'.get? b = some o) → Q (.ref (s.heap.objs.size + 1)) { s with heap := h' }) :
    wpAny (model prog w) A (call (.type "enumerate") [.ref l]) Q E s := by
  obtain ⟨⟨c, dct, dt, sl⟩, hl, hc, n, hd⟩ := hL
  replace hc : c = .type "tuple" := hc
  replace hd : dt = .seq items n := hd
  subst hc hd
  refine callType_new F.called_enumerate (by decide) (F.typeCall_enumerate_1 _) (F.newCall_enumerate_1 _) (fun obj => F.args_object_init_2 obj _) F.entry_enumerate_new
    (meets_enumerate_newT l items n dct sl) ⟨hl, ?_⟩
  have hz : (s.heap.push { cls := .type "tuple_iterator", data := .fields #[.ref l, .int 0 0] }).objs.size = s.heap.objs.size + 1 := Heap.size_push ..
  show _ ∧ _
  rw [hz]
  have he : IsEnum ((s.heap.push { cls := .type "tuple_iterator", data := .fields #[.ref l, .int 0 0] }).push
      { cls := .type "enumerate", data := .fields #[.none, .bool false, .ref s.heap.objs.size, rawInt 0, .none, .none] }) (s.heap.objs.size + 1) s.heap.objs.size 0 .none := by
    have := Heap.get?_push_size (s.heap.push { cls := .type "tuple_iterator", data := .fields #[.ref l, .int 0 0] })
      (o := { cls := .type "enumerate", data := .fields #[.none, .bool false, .ref s.heap.objs.size, rawInt 0, .none, .none] }) rfl
    rw [hz] at this; exact this
  refine ⟨⟨_, he, rfl⟩, h _ he ⟨_, Heap.get?_push_of_some _ (Heap.get?_push_size _ rfl), rfl, rfl⟩ (by rw [Heap.size_push, hz]) fun b o x => Heap.get?_push_of_some _ (Heap.get?_push_of_some _ x)⟩
theorem nextOf_tuple_item {it l : Addr} {i : Nat} {items : Array Value} {x : Value} {Q : Value → Shared → Prop} (hit : s.heap.IsTupleIter it l i)
    (hl : s.heap.IsTuple l items) (hx : items[i]? = some x)
    (hQ : ∀ h', h'.IsTupleIter it l (i + 1) → Heap.SameBut it s.heap h' → Q x { s with heap := h' }) :
    wpAny (model prog w) A (Builtin.SmallTypes.nextOf (.ref it)) Q E s := by
  obtain ⟨o, ho, hc, hd⟩ := id hit
  obtain ⟨ol, hol, _, nl, hdl⟩ := hl
  unfold Builtin.SmallTypes.nextOf
  refine wpAny_bind (wpAny_callSpecial?_slot (name := Str.ofString "__next__") hit.typeIs F.slot_tuple_iterator_next
    (wpAny_call_entry F.slot_tuple_iterator_next hit.typeIs F.entry_tuple_iterator_next ?_ (F.args_tuple_iterator_next_1 _)))
  show wpAny _ _ (field (.ref it) 0 >>= _) _ _ s
  refine wpAny_bind (wpAny_field ho hd (x := .ref l) rfl ?_)
  show wpAny _ _ (if (Value.ref l == Value.none) = true then _ else _) _ _ s
  rw [if_neg (show ¬ ((Value.ref l == Value.none) = true) from Bool.false_ne_true)]
  show wpAny _ _ (field (.ref it) 1 >>= _) _ _ s
  refine wpAny_bind (wpAny_field ho hd (x := .int i 0) rfl ?_)
  show wpAny _ _ (seqItems? (.ref l) >>= _) _ _ s
  refine wpAny_bind (wpAny_seqItems hol hdl ?_)
  simp only [Int.toNat_natCast, hx]
  refine wpAny_bind (wpAny_setField ho hd (by simp) (wpAny_pure ⟨x, rfl, wpAny_pure (hQ _ ?_ (Heap.SameBut.update ..))⟩))
  exact ⟨_, Heap.get?_update_self _ ho (Obj.isFreed_of_fields (Obj.data_mapFields hd _)), (Obj.cls_mapFields ..).trans hc, by
    rw [Obj.data_mapFields hd]; simp [rawInt]⟩
theorem nextOf_tuple_end {it l : Addr} {i : Nat} {items : Array Value} {Q : Value → Shared → Prop} (hh : A.handled = none)
    (hit : s.heap.IsTupleIter it l i) (hl : s.heap.IsTuple l items) (hx : items[i]? = none)
    (hE : ∀ h' e, Heap.ExtBut it s.heap h' → (∃ o, h'.get? e = some o ∧ o.cls = .type "StopIteration") → E (.ref e) { s with heap := h' }) :
    wpAny (model prog w) A (Builtin.SmallTypes.nextOf (.ref it)) Q E s := by
  obtain ⟨o, ho, hc, hd⟩ := id hit
  obtain ⟨ol, hol, _, nl, hdl⟩ := hl
  unfold Builtin.SmallTypes.nextOf
  refine wpAny_bind (wpAny_callSpecial?_slot (name := Str.ofString "__next__") hit.typeIs F.slot_tuple_iterator_next
    (wpAny_call_entry F.slot_tuple_iterator_next hit.typeIs F.entry_tuple_iterator_next ?_ (F.args_tuple_iterator_next_1 _)))
  show wpAny _ _ (field (.ref it) 0 >>= _) _ _ s
  refine wpAny_bind (wpAny_field ho hd (x := .ref l) rfl ?_)
  show wpAny _ _ (if (Value.ref l == Value.none) = true then _ else _) _ _ s
  rw [if_neg (show ¬ ((Value.ref l == Value.none) = true) from Bool.false_ne_true)]
  show wpAny _ _ (field (.ref it) 1 >>= _) _ _ s
  refine wpAny_bind (wpAny_field ho hd (x := .int i 0) rfl ?_)
  show wpAny _ _ (seqItems? (.ref l) >>= _) _ _ s
  refine wpAny_bind (wpAny_seqItems hol hdl ?_)
  simp only [Int.toNat_natCast, hx]
  refine wpAny_bind (wpAny_rule (wpAny_bind (wpAny_setField ho hd (by simp) ?_)))
  show wpAny _ _ (newExc (.type "StopIteration") [] >>= _) _ _ _
  refine wpAny_bind ?_
  simp only [newExc, newTuple]
  refine wpAny_bind (wpAny_newObj_type ?_ (by size_fits))
  refine wpAny_bind (m := firstArgMember _ _) (wpAny_of_eq (a := Value.none) (by first | rfl | (simp only [firstArgMember]; rfl)) ?_)
  refine wpAny_newObj_type ?_ (by size_fits)
  simp only [raiseNew]
  refine wpAny_bind (wpAny_handled ?_)
  first | rw [show A.in1.handled = none from hh] | rw [hh]
  refine wpAny_bind (wpAny_pure (wpAny_throw ?_))
  exact hE _ _ (((Heap.SameBut.update ..).extBut.push _).push _) ⟨_, Heap.get?_push_size _ rfl, rfl⟩
end
theorem draws_tuple {prog : Program} {w : World} {A : Around} (hh : A.handled = none) (it l : Addr) (hne : l ≠ it) (items : Array Value) :
    Draws prog w A it [it, l] items.size (fun i v => items[i]? = some v) (fun i h => h.IsTupleIter it l i ∧ h.IsTuple l items) where
  live := fun _ _ st => let ⟨o, ho, _⟩ := st.1; ⟨o, ho⟩
  frame := fun _ _ _ st hk => ⟨st.1.at fun o e => hk it (by simp) o e, let ⟨o, ho, r⟩ := st.2; ⟨o, hk l (by simp) o ho, r⟩⟩
  item := fun i s Q E hi st hQ => by
    have hx : items[i]? = some items[i] := by simp [hi]
    refine nextOf_tuple_item st.1 st.2 hx fun h' hit' hs' => ?_
    refine hQ _ h' s.toks hx ⟨hit', ?_⟩ hs'
    obtain ⟨o, ho, r⟩ := st.2
    exact ⟨o, (hs'.2 l hne).trans ho, r⟩
  done := fun s Q E st hE => nextOf_tuple_end hh st.1 st.2 (by simp) hE
noncomputable def Ite (K : PySem.W.Frag) (a : Addr) : It :=
  ⟨fun i H => ∃ xs x, SqT K H a xs ∧ xs[i]? = some x, fun i H x H' => ∃ q v, x = .ref q ∧ H q = none ∧ H' = upd H q (.tup [.int (i : Nat), v]) ∧ ∀ xs, SqT K H a xs → xs[i]? = some v, fun i H => ∃ xs, SqT K H a xs ∧ xs.length = i⟩
theorem turn_enum {P : Program} {w : World} {K : PySem.W.Frag} {elts : List Expr} {k : Nat} {pos : Pos} (e it a : Addr) : Turn P w K (.Tuple elts k pos) (Ite K a) [e, it] e (fun i h => (∃ old, IsEnum h e it (i : Nat) old) ∧ h.IsTupleIter it a i) where
  mem := by simp
  obj := fun i h st b hb => by
    obtain ⟨⟨old, he⟩, o, ho, hc, hd⟩ := st
    rcases List.mem_cons.mp hb with rfl | hb
    · exact ⟨_, he, fun v z => by
        have z' : Data.fields _ = Data.cell v := z
        cases z'⟩
    · have : b = it := by simpa using hb
      subst this
      exact ⟨o, ho, fun v z => by rw [hd] at z; cases z⟩
  keep := fun i h h' st kk => by
    obtain ⟨⟨old, he⟩, st⟩ := st
    exact ⟨⟨old, kk e (by simp) _ he⟩, st.at fun o x => kk it (by simp) o x⟩
  item := by
    intro X hP hw hK hc i pins s σ H E I hf st hg
    subst hP hw hK
    obtain ⟨⟨old, he⟩, hit⟩ := st
    obtain ⟨xs, x, hq, hx⟩ := hg
    obtain ⟨its, rv, p, hz⟩ := I.tuple hq
    have ht : s.heap.IsTuple a its.toArray := p
    obtain ⟨oi, hoi, hci, hdi⟩ := id hit
    obtain ⟨oa, hoa, hca, na, hda⟩ := id ht
    have hei : e ≠ it := fun z => by
      subst z
      have he' : s.heap.get? e = _ := he
      rw [hoi] at he'; cases he'; exact tyNe hci (by decide)
    have hea : e ≠ a := fun z => by
      subst z
      have he' : s.heap.get? e = _ := he
      rw [hoa] at he'; cases he'; exact tyNe hca (by decide)
    have hai : a ≠ it := fun z => by
      subst z
      rw [hoi] at hoa; cases hoa; rw [hci] at hca; exact tyNe hca (by decide)
    obtain ⟨e0, e1, e2, e3, e4, e5⟩ := hf e (by simp)
    obtain ⟨f0, f1, f2, f3, f4, f5⟩ := hf it (by simp)
    have hlt : i < its.toArray.size := by
      have := (List.getElem?_eq_some_iff.mp hx).1
      have hl := rv.length
      simp; omega
    refine wpAny_pyNext_enum_itemD (draws_tuple (prog := X.prog) (w := X.w) (A := X.A.in1) (I.ok.hd hc) it a hai its.toArray) he ⟨hit, ht⟩ hlt hei (by simp; exact ⟨hei, hea⟩) fun y h' tk hy heo hst' htup hsz hk => ?_
    refine ⟨_, rfl, wpAny_letOwnedTupleGo_enum heo fun h2 he2 hs2 => ?_⟩
    replace hs2 : Heap.SameBut e h' h2 := hs2
    obtain ⟨u, hu, ru⟩ := rv.get hx
    have hyu : y = u := by
      have : its.toArray[i]? = some u := by simpa using hu
      rw [hy] at this; exact Option.some.inj this
    subst hyu
    have elt : e < s.heap.objs.size := Heap.lt_size he
    have ilt : it < s.heap.objs.size := Heap.lt_size hoi
    have hN : H s.heap.objs.size = none := I.hok.fresh (Nat.le_refl _)
    have keep : ∀ b o, b ≠ e → b ≠ it → s.heap.get? b = some o → h2.get? b = some o := fun b o b1 b2 q => (hs2.2 b b1).trans (hk b o b1 b2 q)
    have htup2 : h2.get? s.heap.objs.size = some { cls := .type "tuple", data := .seq #[.int i tk, y] } := (hs2.2 _ (Nat.ne_of_gt elt)).trans htup
    have nch : ∀ b, b ∉ ([e, it] : List Addr) → b ≠ e ∧ b ≠ it := fun b hb => by simpa using hb
    refine ⟨.ref s.heap.objs.size, upd H s.heap.objs.size (.tup [.int (i : Nat), x]), ?_, rfl, ⟨_, x, rfl, hN, rfl, fun ys hys => by rw [I.tuple_inj hys hq]; exact hx⟩, ⟨⟨_, by simpa using he2⟩, hst'.1.extBut hs2.extBut (Ne.symm hei)⟩, fun b hb => ?_⟩
    · suffices I2 : L2.Inv X pins σ (upd H s.heap.objs.size (.tup [.int (i : Nat), x])) { s with heap := h2, gens := s.gens, drawn := s.drawn, toks := tk + 1 } from I2
      refine I.step (g' := s.gens) (d' := s.drawn) (t' := tk + 1) (ch := [e, it]) (fun b hb => ?_) (fun b o _ _ hb q _ => keep b o (nch b hb).1 (nch b hb).2 q) (fun b o _ _ hb q _ => ⟨o.slots, keep b o (nch b hb).1 (nch b hb).2 q⟩) (fun b o _ q n => ?_) (fun b o hb q => ⟨o, keep b o (nch b hb).1 (nch b hb).2 q⟩)
        (fun b ys q => ?_) (fun b o u q => ?_) (fun b ps q => ⟨#[], ?_⟩) (fun m hm => ?_) (fun b u q => ?_) I.bare
      · rcases List.mem_cons.mp hb with rfl | hb
        · exact ⟨e3, e1, e4, e5⟩
        · have : b = it := by simpa using hb
          subst this
          exact ⟨f3, f1, f4, f5⟩
      · rw [upd_ne (Nat.ne_of_lt (Heap.lt_size q))]; exact n
      · rw [upd_ne (ne_of_none q hN)]; exact q
      · rw [upd_ne (ne_of_none q hN)]; exact q
      · rw [upd_ne (ne_of_none q hN), q]; simp
      · obtain ⟨o, es, ep, ho, r⟩ := hm
        exact ⟨o, es, ep, keep _ o (Ne.symm e1) (Ne.symm f1) ho, r⟩
      · by_cases hb : b = s.heap.objs.size
        · subst hb
          rw [upd_same] at q
          cases q
          exact ⟨by show 2 ≤ sizeLine; rw [sizeLine_eq]; decide, [.int i tk, y], .cons ⟨tk, rfl⟩ (.cons ru .nil), _, htup2, rfl, _, rfl⟩
        · rw [upd_ne hb] at q
          have ne1 : ∀ c v, H c = some v → c ≠ e := fun c v z w => by rw [w, e0] at z; cases z
          have ne2 : ∀ c v, H c = some v → c ≠ it := fun c v z w => by rw [w, f0] at z; cases z
          refine (I.hok b u q).stay (fun c v hc' z => ?_) (fun c z => by rw [upd_ne (ne_of_none z hN)]; exact z) fun c ys z => by rw [upd_ne (ne_of_none z hN)]; exact z
          rcases hc' with w | w
          · subst w; exact keep c v (ne1 c _ q) (ne2 c _ q) z
          · exact keep c v (ne1 c _ w) (ne2 c _ w) z
    · have : b ≠ s.heap.objs.size := by
        rcases List.mem_cons.mp hb with rfl | hb
        · exact Nat.ne_of_lt elt
        · have : b = it := by simpa using hb
          subst this
          exact Nat.ne_of_lt ilt
      rw [upd_ne this]
      exact (hf b hb).1
  done := by
    intro X hP hw hK hc i pins s σ H E I hf st hg
    subst hP hw hK
    obtain ⟨⟨old, he⟩, hit⟩ := st
    obtain ⟨xs, hq, hx⟩ := hg
    obtain ⟨its, rv, p, hz⟩ := I.tuple hq
    have ht : s.heap.IsTuple a its.toArray := p
    obtain ⟨oi, hoi, hci, hdi⟩ := id hit
    obtain ⟨oa, hoa, hca, na, hda⟩ := id ht
    have hai : a ≠ it := fun z => by
      subst z
      rw [hoi] at hoa; cases hoa; rw [hci] at hca; exact tyNe hca (by decide)
    obtain ⟨f0, f1, f2, f3, f4, f5⟩ := hf it (by simp)
    have hsz : its.toArray.size = i := by have := rv.length; simp; omega
    refine wpAny_pyNext_enum_endD (draws_tuple (prog := X.prog) (w := X.w) (A := X.A.in1) (I.ok.hd hc) it a hai its.toArray) he ⟨by rw [hsz]; exact hit, ht⟩ fun h' hx' => ⟨rfl, I.turned (t' := s.toks) (fun b o hb e => hx' b o hb e) f0 f1 f3 f4 f5⟩
  self := fun _ _ _ _ _ st h => by
    obtain ⟨⟨old, he⟩, _⟩ := st
    exact wpAny_pyIter_enum he h
section
variable {X : Cx} {pos p tp : Pos} {elts : List Expr} {tk : Nat}
noncomputable def iEn (K : PySem.W.Frag) (ta : TE) : TI := fun σ H R => ta σ H fun x H1 => ∃ a xs, x = .ref a ∧ SqT K H1 a xs ∧ (xs.length ≤ sizeLine → R (Ite K a) H1)
theorem pi_enum {a : Expr} {ta : TE} (hg : Gl X "enumerate") (hm : X.mg "enumerate" = none) (ha : PE X a ta) (hs : starEach [a] X.env = [(false, eval a X.env)] := by rfl) : PI X (.Tuple elts tk tp) (.Call (.Name "enumerate" p) [a] [] pos) (iEn X.K ta) := by
  intro pins s σ H R I h
  have hpa := pa_cons ha pa_nil hs
  refine Call_ (ld_blt I hg hm PyProof.Rows.boot_enumerate (PyProof.Rows.callWith_type1 (thn (hpa pos pins s σ H (fun vs H1 => ∃ a xs, vs = [.ref a] ∧ SqT X.K H1 a xs ∧ (xs.length ≤ sizeLine → R (Ite X.K a) H1)) I ?_) fun us s1 ⟨vs, H1, I1, r1, q1⟩ => ?_) hs rfl))
  · show ta σ H fun x H1 => _
    have key : ∀ (x : V) (H1 : Hp), (∃ a xs, x = .ref a ∧ SqT X.K H1 a xs ∧ (xs.length ≤ sizeLine → R (Ite X.K a) H1)) = (∃ a xs, [x] = [.ref a] ∧ SqT X.K H1 a xs ∧ (xs.length ≤ sizeLine → R (Ite X.K a) H1)) := fun x H1 => by simp
    have h' : ta σ H fun x H1 => ∃ a xs, x = .ref a ∧ SqT X.K H1 a xs ∧ (xs.length ≤ sizeLine → R (Ite X.K a) H1) := h
    simp only [key] at h'
    exact h'
  · obtain ⟨a, xs, e, hq, q⟩ := q1
    subst e
    obtain ⟨u, rfl, ru⟩ := Vals.one r1
    cases (show u = Value.ref a from ru)
    obtain ⟨its, rv, pt, hz⟩ := I1.tuple hq
    refine call_enumerate_tuple (show s1.heap.IsTuple a its.toArray from pt) fun h' he hit hsz hk => ?_
    refine wpAny_pyIter_enum (s := { s1 with heap := h' }) he ?_
    have I2 : Inv X pins σ H1 { s1 with heap := h' } := I1.kept (t' := s1.toks) hk
    refine ⟨s1.heap.objs.size + 1, [s1.heap.objs.size + 1, s1.heap.objs.size], _, _, H1, rfl, I2, turn_enum (s1.heap.objs.size + 1) s1.heap.objs.size a, ⟨⟨_, by simpa using he⟩, hit⟩, fun b hb => ?_, q hz⟩
    have hb' : s1.heap.objs.size ≤ b := by
      rcases List.mem_cons.mp hb with e | hb
      · rw [e]; exact Nat.le_succ _
      · have : b = s1.heap.objs.size := by simpa using hb
        rw [this]; exact Nat.le_refl _
    exact I1.fpOk hb' (I1.hok.fresh hb')
theorem walk_enum {K : PySem.W.Frag} {ρ : List Addr} {H : Hp} {hd : Hd} {q : Addr} {l : List D} {vs : List V} (r : RH K ρ H hd) (hq : H q = some (.tup vs)) (rv : RDs K ρ H l vs) (hz : vs.length ≤ sizeLine) :
    Walk K ρ H (Ite K q) ((List.range l.length).zip l |>.map fun p => .tup [.int (p.1 : Nat), p.2]) none where
  go := fun ρ' H' hd' i d ex rh _ hi => by
    have k := r.kp ex
    obtain ⟨hil, hi2⟩ := List.getElem?_eq_some_iff.mp hi
    have hl : i < l.length := by simpa using hil
    have hd : d = .tup [.int (i : Nat), l[i]] := by rw [← hi2]; simp
    subst hd
    obtain ⟨v, hv, rd⟩ := (rv.mono k).get (i := i) (d := l[i]) (by simp [hl])
    have sq : SqT K H' q vs := SqT.of (k.tup q vs hq)
    refine ⟨⟨vs, v, sq, hv⟩, fun x H2 y => ?_⟩
    obtain ⟨q2, v2, rfl, hn, rfl, y⟩ := y
    have := y vs sq
    rw [hv] at this
    cases this
    have sm := same_upd (o := HO.tup [.int (i : Nat), v]) hn
    refine ⟨sm, ?_⟩
    simp only [RD]
    exact ⟨q2, _, rfl, upd_same, RDs.cons (by simp only [RD]) (RDs.cons (rd.mono (Kp.same sm)) RDs.nil)⟩
  stop := fun ρ' H' hd' ex rh _ => ⟨vs, SqT.of ((r.kp ex).tup q vs hq), by rw [← rv.length]; simp⟩
  sz := by
    have := rv.length
    simp; omega
theorem mi_enum {a : Expr} {f : EF} (hg : Gl X "enumerate") (hm : X.mg "enumerate" = none) (ha : ME X a f) (hs : starEach [a] X.env = [(false, eval a X.env)] := by rfl) : MI X (.Tuple elts tk tp) (.Call (.Name "enumerate" p) [a] [] pos) (iEnum f) := by
  refine PI.imp (pi_enum hg hm ha hs) fun σ H R zq95 => ?_
  obtain ⟨ρ, σd, hd, rs, pp⟩ := zq95
  refine ⟨ρ, σd, hd, rs, ?_⟩
  unfold iEnum at pp
  cases e : f σd hd with
  | exc x h1 => rw [e] at pp; exact pp
  | bad => rw [e] at pp; exact pp
  | ok d hd1 =>
    rw [e] at pp
    simp only [bind_ok] at pp
    intro v H1 ρ1 ex1 rs1 rv
    cases d <;> try exact pp.elim
    rename_i l
    simp only [rD, RD] at rv
    obtain ⟨q, vs, rfl, hq, rvs⟩ := rv
    exact ⟨q, vs, rfl, SqT.of hq, fun hz => pp _ H1 ρ1 ex1 rs1 (walk_enum rs1.hp hq rvs hz)⟩
end
end Fm
set_option Elab.async false
set_option linter.all false
set_option maxRecDepth 100000
namespace Fm
open PySem PySem.Spec L2 PySem.W PyProof.Rows
section
variable {prog : Program} {w : World} {A : Around} {E : Value → Shared → Prop} {s : Shared}
theorem sort_short {a : Addr} {vs : List Value} {n : Nat} {P : PySem.Fin → Shared → Prop} (ho : s.heap.get? a = some (seqObj "list" vs.toArray n)) (h2 : vs.length < 2)
    (h : P (.done (.ret .none)) { s with heap := sortedHeap s.heap a vs vs.toArray }) : wpAny (model prog w) A (Builtin.«list.sort» ⟨[.ref a], []⟩) P E s := by
  rw [list_sort_plain]
  have ha : a < s.heap.objs.size := Heap.lt_size ho
  refine wpAny_bind (listItems_at ho rfl ?_)
  refine wpAny_bind (listUpdate_at ho rfl ?_)
  obtain ⟨e1, ho1⟩ : ∃ e1, (s.heap.update a (Obj.mapSeq fun _ => #[])).get? a = some (seqObj "list" #[] e1) := ⟨_, get?_update_seq ho (fun _ => #[])⟩
  refine wpAny_bind (seqEpoch_at ho1 rfl ?_)
  refine wpAny_bind (wpAny_newTuple ?_)
  refine wpAny_bind (wpAny_newList ?_)
  refine wpAny_holding ?_
  have ho6 : (((s.heap.update a (Obj.mapSeq fun _ => #[])).push (seqObj "tuple" vs.toArray 0)).push (seqObj "list" #[] 0)).get? a = some (seqObj "list" #[] e1) := by
    rw [Heap.get?_push_ne _ _ _ (by rw [size_push', Heap.size_update]; exact Nat.ne_of_lt (Nat.lt_succ_of_lt ha)), Heap.get?_push_ne _ _ _ (by rw [Heap.size_update]; exact Nat.ne_of_lt ha)]
    exact ho1
  show wpAny (model prog w) A _ P E { s with heap := ((s.heap.update a (Obj.mapSeq fun _ => #[])).push (seqObj "tuple" vs.toArray 0)).push (seqObj "list" #[] 0) }
  dsimp only
  have hsz : vs.toArray.size = vs.length := by simp
  have h2' : vs.toArray.size < 2 := by rw [hsz]; exact h2
  rw [if_pos h2', if_pos h2']
  refine wpAny_bind (wpAny_pure ?_)
  rw [StateT.run_pure]
  refine wpAny_bind (wpAny_pure ?_)
  dsimp only
  refine wpAny_bind (seqEpoch_at ho6 rfl ?_)
  refine wpAny_bind (listUpdate_at ho6 rfl ?_ (hsz2 := by rw [Array.size_map]; show (pairsOf vs).size ≤ _; rw [pairsOf_size, sizeLine_eq]; omega))
  simp only [bne_self_eq_false, Bool.false_eq_true, if_false]
  have e : (arrOf (SortSt.mk' general' (vs.toArray.zip vs.toArray) #[] 7 none)).map (·.2) = vs.toArray := by
    show (vs.toArray.zip vs.toArray).map (·.2) = vs.toArray
    apply Array.ext
    · simp
    · intro i h1 h2
      simp
  refine wpAny_pure ?_
  have h' := h
  unfold sortedHeap at h'
  rw [e]
  exact h'
theorem sorted_short {l : Addr} {vs : List Value} {Q : Value → Shared → Prop} (hl : s.heap.IsList l vs.toArray) (h2 : vs.length < 2)
    (h : ∀ h' n, (∀ b o, s.heap.get? b = some o → h'.get? b = some o) → h'.get? (s.heap.objs.size + 1) = some (seqObj "list" vs.toArray n) → Q (.ref (s.heap.objs.size + 1)) { s with heap := h' }) :
    wpAny (model prog w) A (call (.builtin "sorted") [.ref l]) Q E s := by
  refine Calls.call_function_entry kind_sorted plain_sorted entry_sorted (args_sorted1 _) ?_
  unfold Builtin.«sorted»
  refine wpAny_bind (m := checkCount "sorted" 1 1 _) (wpAny_pure ?_)
  refine wpAny_bind (collect_list hl ?_ (by rw [sizeLine_eq]; omega))
  refine wpAny_bind (wpAny_newList ?_ (by rw [sizeLine_eq]; omega))
  have hsz : ((s.heap.push (seqObj "list" #[] 0)).update s.heap.objs.size (Obj.mapSeq (· ++ vs.toArray))).objs.size = s.heap.objs.size + 1 := by
    rw [Heap.size_update, size_push']
  have hoL : (((s.heap.push (seqObj "list" #[] 0)).update s.heap.objs.size (Obj.mapSeq (· ++ vs.toArray))).push (seqObj "list" vs.toArray 0)).get? (s.heap.objs.size + 1) = some (seqObj "list" vs.toArray 0) := by
    rw [← hsz]; exact Heap.get?_push_size _ rfl
  have keep : ∀ b o, s.heap.get? b = some o → (((s.heap.push (seqObj "list" #[] 0)).update s.heap.objs.size (Obj.mapSeq (· ++ vs.toArray))).push (seqObj "list" vs.toArray 0)).get? b = some o := fun b o q => by
    have hlt : b < s.heap.objs.size := Heap.lt_size q
    rw [Heap.get?_push_ne _ _ _ (by rw [hsz]; exact Nat.ne_of_lt (Nat.lt_succ_of_lt hlt)), Heap.get?_update_ne _ _ _ _ (Nat.ne_of_lt hlt), Heap.get?_push_ne _ _ _ (Nat.ne_of_lt hlt)]
    exact q
  show wpAny _ _ _ _ _ { s with heap := ((s.heap.push (seqObj "list" #[] 0)).update s.heap.objs.size (Obj.mapSeq (· ++ vs.toArray))).push (seqObj "list" vs.toArray 0) }
  rw [hsz]
  generalize hG : ((s.heap.push (seqObj "list" #[] 0)).update s.heap.objs.size (Obj.mapSeq (· ++ vs.toArray))).push (seqObj "list" vs.toArray 0) = G at hoL keep
  have hGs : G.objs.size = s.heap.objs.size + 2 := by rw [← hG, size_push', hsz]
  refine wpAny_bind (wpAny_holding (wpAny_call_entry slot_list_sort (s := { s with heap := G }) ⟨_, hoL, rfl⟩ entry_list_sort (sort_short hoL h2 ⟨_, rfl, ?_⟩) (args_list_sort _)))
  refine wpAny_pure ⟨_, rfl, ?_⟩
  have hlt1 : s.heap.objs.size + 1 < G.objs.size := by omega
  obtain ⟨e1, ho1⟩ : ∃ e1, (G.update (s.heap.objs.size + 1) (Obj.mapSeq fun _ => #[])).get? (s.heap.objs.size + 1) = some (seqObj "list" #[] e1) := ⟨_, get?_update_seq hoL (fun _ => #[])⟩
  have ho6 : (((G.update (s.heap.objs.size + 1) (Obj.mapSeq fun _ => #[])).push (seqObj "tuple" vs.toArray 0)).push (seqObj "list" #[] 0)).get? (s.heap.objs.size + 1) = some (seqObj "list" #[] e1) := by
    rw [Heap.get?_push_ne _ _ _ (by rw [size_push', Heap.size_update]; exact Nat.ne_of_lt (Nat.lt_succ_of_lt hlt1)), Heap.get?_push_ne _ _ _ (by rw [Heap.size_update]; exact Nat.ne_of_lt hlt1)]
    exact ho1
  refine h _ _ (fun b o q => ?_) (get?_update_seq ho6 _)
  have hlt : b < s.heap.objs.size := Heap.lt_size q
  unfold sortedHeap
  have n1 : b ≠ s.heap.objs.size + 1 := Nat.ne_of_lt (Nat.lt_succ_of_lt hlt)
  have n2 : b < G.objs.size := by rw [hGs]; exact Nat.lt_succ_of_lt (Nat.lt_succ_of_lt hlt)
  rw [Heap.get?_update_ne _ _ _ _ n1, Heap.get?_push_ne _ _ _ (by rw [size_push', Heap.size_update]; exact Nat.ne_of_lt (Nat.lt_succ_of_lt n2)), Heap.get?_push_ne _ _ _ (by rw [Heap.size_update]; exact Nat.ne_of_lt n2), Heap.get?_update_ne _ _ _ _ n1]
  exact keep b o q
theorem lex_wp {Q : Bool → Shared → Prop} : ∀ (ns ms : List Int) {xs ys : List Value} (i : Nat), IntsAre xs ns → IntsAre ys ms → Q (Fm.lexLt ns ms) s → KatLex prog w A true (decide (xs.length < ys.length)) Q (xs.zip ys) i s := by
  intro ns
  induction ns with
  | nil =>
    intro ms xs ys i hx hy h
    cases hx
    cases ms with
    | nil => cases hy; exact h
    | cons m ms =>
      cases hy
      have h' : Q true s := h
      exact h'
  | cons n ns ih =>
    intro ms xs ys i hx hy h
    cases hx with
    | cons _ t r =>
      cases ms with
      | nil =>
        cases hy
        have h' : Q false s := h
        exact h'
      | cons m ms =>
        cases hy with
        | cons _ t' r' =>
          rename_i xs ys
          refine kat_cons (SeqAt.EqAt.int_int n t m t' prog w _ _ ?_)
          by_cases e : n = m
          · subst e
            rw [show (n == n) = true by simp]
            refine kat_yes ?_
            have h' : Q (Fm.lexLt ns ms) s := by simpa [Fm.lexLt] using h
            have := ih ms (i + 1) r r' h'
            have e2 : decide ((Value.int n t :: xs).length < (Value.int n t' :: ys).length) = decide (xs.length < ys.length) := by simp
            rw [e2]
            exact this
          · rw [show (n == m) = false by simpa using e]
            refine kat_no ?_
            have h' : Q (decide (n < m)) s := by simpa [Fm.lexLt, e] using h
            cases i with
            | zero => exact oneLt_int h'
            | succ i =>
              have : (true && (i + 1 == 0)) = false := by simp
              rw [this]
              exact kat_one _ _ (lt_int (by first | exact ⟨_, rfl, h'⟩ | exact h'))
theorem asc_wp {cmp : Nat → Nat → (Bool → Shared → Prop) → Shared → Prop} {n : Nat} {Q : Nat → Shared → Prop} (hc : ∀ m, 1 ≤ m → m < n → ∀ C : Bool → Shared → Prop, C false s → cmp m (m - 1) C s) (q : Q n s) :
    ∀ (f m : Nat), 1 ≤ m → m + f = n → (kas_asc (List.toArray (List.range n)) f m).kasWp cmp Q s
  | 0, m, _, e => by
    have : m = n := by omega
    subst this
    exact q
  | f + 1, m, h1, e => by
    have g1 : (List.toArray (List.range n)).getD m 0 = m := by simp [Array.getD, show m < n by omega]
    have g2 : (List.toArray (List.range n)).getD (m - 1) 0 = m - 1 := by simp [Array.getD, show m - 1 < n by omega]
    show cmp _ _ _ _
    rw [g1, g2]
    refine hc m h1 (by omega) _ ?_
    show KasT.kasWp cmp (if false = true then _ else _) Q s
    rw [if_neg Bool.false_ne_true]
    exact asc_wp hc q f (m + 1) (by omega) (by omega)
theorem sort_asc_wp {cmp : Nat → Nat → (Bool → Shared → Prop) → Shared → Prop} {n : Nat} {Q : Array Nat → Shared → Prop} (h2 : 2 ≤ n) (hc : ∀ m, 1 ≤ m → m < n → ∀ C : Bool → Shared → Prop, C false s → cmp m (m - 1) C s) (q : Q (List.toArray (List.range n)) s) :
    (kas_sort n).kasWp cmp Q s := by
  unfold kas_sort
  rw [KasT.kasWp_bind]
  unfold kas_count
  rw [KasT.kasWp_bind]
  refine asc_wp hc ?_ (n - 1) 1 (Nat.le_refl _) (by omega)
  rw [if_pos (by simp)]
  show KasT.kasWp cmp (if n < n then _ else _) Q s
  rw [if_neg (Nat.lt_irrefl _)]
  exact q
end
theorem ns_one {h : Heap} {a : Addr} {m m' : Str → Option Value} (x : h.Ns a m) (y : h.Ns a m') : m = m' := by
  obtain ⟨o, es, ep, ho, hd, _, r⟩ := x
  obtain ⟨o', es', ep', ho', hd', _, r'⟩ := y
  rw [ho] at ho'; cases ho'
  rw [hd] at hd'; cases hd'
  funext z
  rw [← r z, ← r' z]
theorem objAny {P : Program} {w : World} {H : Hp} {h : Heap} {a : Addr} {o : HO} (x : ObjOk P w H h a o) : ∃ u, h.get? a = some u := by
  cases o with
  | lst xs => obtain ⟨_, _, _, _, e⟩ := x; exact ⟨_, e⟩
  | tup xs => obtain ⟨_, _, _, _, e, _⟩ := x; exact ⟨_, e⟩
  | dK kvs => obtain ⟨_, _, _, _, _, _, _, e, _⟩ := x; exact ⟨_, e⟩
  | dT kvs => obtain ⟨_, _, _, _, _, _, _, e, _⟩ := x; exact ⟨_, e⟩
  | set S n => obtain ⟨_, _, _, _, e, _⟩ := x; exact ⟨_, e⟩
  | ins C dx fs => obtain ⟨_, _, _, e, _⟩ := x; exact ⟨_, e⟩
  | own y => exact x
  | xd fs => obtain ⟨_, ⟨_, _, _, e, _⟩, _⟩ := x; exact ⟨_, e⟩
  | rng lo hi => obtain ⟨_, _, _, e⟩ := x; exact ⟨_, e⟩
  | frz ob u => exact ⟨_, x.1⟩
  | tbl ps => exact ⟨_, x⟩
  | met f y => exact ⟨_, x⟩
  | ext φ => exact x.2.1
inductive RowsV (H : Hp) : List V → List (List Int) → Prop
  | nil : RowsV H [] []
  | cons {a : Addr} {r : List Int} {vs : List V} {rs : List (List Int)} : H a = some (.tup (r.map V.int)) → RowsV H vs rs → RowsV H (.ref a :: vs) (r :: rs)
theorem RowsV.get {H : Hp} : ∀ {vs : List V} {rs : List (List Int)} {i : Nat} {v : V}, RowsV H vs rs → vs[i]? = some v → ∃ a, v = .ref a ∧ H a = some (.tup ((rs.getD i []).map V.int))
  | _, _, _, _, .nil, e => by simp at e
  | _, _, 0, _, .cons h t, e => by simp at e; subst e; exact ⟨_, rfl, h⟩
  | _, _, i + 1, v, .cons h t, e => by
    obtain ⟨a, h1, h2⟩ := RowsV.get (i := i) (v := v) t (by simpa using e)
    exact ⟨a, h1, by simpa using h2⟩
theorem RowsV.length {H : Hp} : ∀ {vs : List V} {rs : List (List Int)}, RowsV H vs rs → vs.length = rs.length
  | _, _, .nil => rfl
  | _, _, .cons _ t => by simp [RowsV.length t]
theorem ascR_get : ∀ {rs : List (List Int)} {m : Nat}, ascR rs = true → 1 ≤ m → m < rs.length → Fm.lexLt (rs.getD m []) (rs.getD (m - 1) []) = false
  | [], m, _, _, h => by simp at h
  | [r], m, _, h1, h => by simp at h; omega
  | a :: b :: r, m, h, h1, hl => by
    simp only [ascR, Bool.and_eq_true, Bool.not_eq_true'] at h
    cases m with
    | zero => omega
    | succ m =>
      cases m with
      | zero => simpa using h.1
      | succ m =>
        have := ascR_get (rs := b :: r) (m := m + 1) h.2 (by omega) (by simpa using hl)
        simpa using this
section
variable {X : Cx} {pos p : Pos}
noncomputable def rSort (K : PySem.W.Frag) : List V → Hp → VK → Prop := fun xs H Q => ∃ (a : Addr) (vs : List V) (rs : List (List Int)), xs = [.ref a] ∧ SqL K H a vs ∧ vs.length < 64 ∧ RowsV H vs rs ∧ ascR rs = true ∧ (rs.all fun x => !x.isEmpty) = true ∧ ∀ q, H q = none → Q (.ref q) (upd H q (.lst vs))
theorem rel_int {i : Int} {u : Value} (r : RelV (.int i) u) : ∃ t, u = .int i t := r
theorem kat_tups {P : Program} {w : World} {H : Hp} {h h' : Heap} (hok : HOk P w H h) (hk : ∀ b o u, H b = some u → h.get? b = some o → h'.get? b = some o) : ∀ {vs : List V} {rs : List (List Int)} {its : List Value}, RowsV H vs rs → Vals vs its → (rs.all fun x => !x.isEmpty) = true →
    ∃ fs, KatTups h' its fs ∧ fs.length = its.length ∧ ∀ v ∈ fs, ∃ i t, v = Value.int i t
  | _, _, _, .nil, .nil, _ => ⟨[], .nil, rfl, fun v hv => by simp at hv⟩
  | _, _, _, .cons (a := a) (r := r) ha t, .cons rv rt, hne => by
    simp only [List.all_cons, Bool.and_eq_true, Bool.not_eq_true'] at hne
    obtain ⟨fs, h1, h2, h3⟩ := kat_tups hok hk t rt hne.2
    obtain ⟨z, its0, r0, o, ho, hc, n, hd⟩ := hok a _ ha
    cases r with
    | nil => simp at hne
    | cons i r =>
      cases r0 with
      | cons q0 qr =>
        rename_i u us
        obtain ⟨tk, rfl⟩ := rel_int q0
        cases rv
        refine ⟨.int i tk :: fs, KatTups.cons (hk a o _ ha ho) hc hd (by simp) h1, by simp [h2], fun v hv => ?_⟩
        rcases List.mem_cons.mp hv with rfl | hv
        · exact ⟨i, tk, rfl⟩
        · exact h3 v hv
theorem call_sortR : CallR X (.builtin "sorted") (rSort X.K) := by
  intro pins s σ H xs us Q I r h
  obtain ⟨a, vs, rs, rfl, sq, h64, rv, asc, hne, q⟩ := h
  obtain ⟨u, rfl, ru⟩ := Vals.one r
  cases (show u = Value.ref a from ru)
  obtain ⟨its, rvs, pl, hz⟩ := I.list sq
  have hl : s.heap.IsList a its.toArray := pl.isList
  have hlen : its.length = vs.length := rvs.length.symm
  by_cases h2 : its.length < 2
  · refine sorted_short hl h2 fun h' n hk ho => ?_
    exact ⟨.ref (s.heap.objs.size + 1), _, I.laid (t' := s.toks) (o := .lst vs) hk (Nat.le_succ _) ⟨hz, its, n, rvs, ho⟩, rfl, q _ (I.hok.fresh (Nat.le_succ _))⟩
  · obtain ⟨m, hm, _⟩ := id I.loc
    have N0 : News (Att.noObjs s.heap) X.env.locals s.heap (Att.ledger s.heap X.env.locals X.env.locals) := fun ⟨b, o⟩ hb => by
      obtain ⟨n1, n2, e⟩ := Att.mem_ledger.mp hb
      exact ⟨e, n1, Att.noObjs_get _ _⟩
    refine kat_sorted (Att.fr_all hm) N0 hl (by omega) (by omega) fun D e1 h' F' N' lo => ?_
    have inN : ∀ b o, b ≠ X.env.locals → s.heap.get? b = some o → (b, o) ∈ Att.ledger s.heap X.env.locals X.env.locals := fun b o hb e => Att.mem_ledger.mpr ⟨hb, hb, e⟩
    have keep' : ∀ b o, b ≠ X.env.locals → s.heap.get? b = some o → h'.get? b = some o := fun b o hb e => (N' (b, o) (List.mem_cons_of_mem _ (inN b o hb e))).1
    have nL : ∀ b u, H b = some u → b ≠ X.env.locals := fun b u e z => by rw [z, I.free] at e; cases e
    obtain ⟨fs, t1, t2, t3⟩ := kat_tups I.hok (h' := h') (fun b o u hb e => keep' b o (nL b u hb) e) rv rvs hne
    refine kat_kind (s := { s with heap := h' }) (T := .type "int") t1 (by omega) (fun v hv => ?_) rfl ?_
    · obtain ⟨i, t, rfl⟩ := t3 v hv
      exact Looks.of_pure rfl
    · have hT : (Value.type "int" != Value.type "tuple") = true := by decide
      rw [hT]
      refine sort_asc_wp (by omega) (fun k h1 hk C hC => ?_) ?_
      · have cmp : ∀ (i j : Nat), i < its.length → j < its.length → ∀ C : Bool → Shared → Prop, C (Fm.lexLt (rs.getD i []) (rs.getD j [])) { s with heap := h' } → kas_ask X.prog X.w X.A.in1.in1 (tuples' true) its i j C { s with heap := h' } := fun i j hi hj C hC => by
          unfold kas_ask
          have at' : ∀ i, i < its.length → ∃ b, its.getD i Value.none = .ref b ∧ ∃ (o : Obj) (zs : List Value) (n : Nat), h'.get? b = some o ∧ o.data = .seq zs.toArray n ∧ IntsAre zs (rs.getD i []) := fun i hi => by
            have hv : vs[i]? = some (vs[i]'(by omega)) := by simp [show i < vs.length by omega]
            obtain ⟨b, e1, e2⟩ := rv.get hv
            obtain ⟨u, hu, ru⟩ := rvs.get hv
            rw [e1] at ru
            cases (show u = Value.ref b from ru)
            obtain ⟨z, zs, r0, o, ho, hc, n, hd⟩ := I.hok b _ e2
            exact ⟨b, by simp [List.getD, hu], o, zs, n, keep' b o (nL b _ e2) ho, hd, intsAre_of r0⟩
          obtain ⟨b1, x1, o1, z1, n1, y1, d1, i1⟩ := at' i hi
          obtain ⟨b2, x2, o2, z2, n2, y2, d2, i2⟩ := at' j hj
          rw [x1, x2]
          refine kat_lt (s := { s with heap := h' }) y1 d1 y2 d2 ?_
          have := lex_wp (prog := X.prog) (w := X.w) (A := X.A.in1.in1) (s := { s with heap := h' }) (Q := C) (rs.getD i []) (rs.getD j []) 0 i1 i2 hC
          simpa using this
        refine cmp k (k - 1) hk (by omega) C ?_
        rw [ascR_get asc h1 (by rw [← rv.length]; omega)]
        exact hC
      · have eo : ((List.toArray (List.range its.length)).toList.map fun i => its.getD i Value.none) = its := by
          apply List.ext_getElem
          · simp
          · intro i h1 h2
            simp [List.getD, h2]
        rw [eo]
        have hDn : ∀ q ∈ Att.ledger s.heap X.env.locals X.env.locals, q.1 ≠ D := fun q hq => Nat.ne_of_lt (lo q hq)
        refine KasFin.intro F' N' (UpdF.head hDn) fun h2 c F2 N2 => ?_
        have DL : D ≠ X.env.locals := (N' (D, _) (List.mem_cons_self ..)).2.1
        have hD2 : h2.get? D = some (PySem.W.listOf its.toArray c) := (N2 (D, _) (List.mem_cons_self ..)).1
        have keep2 : ∀ b o, b ≠ X.env.locals → s.heap.get? b = some o → h2.get? b = some o := fun b o hb e => (N2 (b, o) (List.mem_cons_of_mem _ (inN b o hb e))).1
        have bD : ∀ b o, s.heap.get? b = some o → b ≠ D := fun b o e => by
          by_cases hb : b = X.env.locals
          · rw [hb]; exact Ne.symm DL
          · exact hDn (b, o) (inN b o hb e)
        have HD : H D = none := by
          cases e : H D with
          | none => rfl
          | some u =>
            have lt := I.hok.lt e
            have : ∃ o, s.heap.get? D = some o := by
              have ok := I.hok D u e
              exact objAny ok
            obtain ⟨o, ho⟩ := this
            exact absurd rfl (bD D o ho)
        refine ⟨.ref D, upd H D (.lst vs), ?_, rfl, q D HD⟩
        suffices I2 : L2.Inv X pins σ (upd H D (.lst vs)) { s with heap := h2, gens := s.gens, drawn := s.drawn, toks := s.toks } from I2
        refine I.step (g' := s.gens) (d' := s.drawn) (t' := s.toks) (ch := []) (fun _ z => nomatch z) (fun b o hb _ _ e _ => keep2 b o hb e) (fun b o hb _ _ e _ => ⟨o.slots, keep2 b o hb e⟩) (fun b o _ e n => by rw [upd_ne (bD b o e)]; exact n) (fun b o _ e => ?_)
          (fun b ys e => by rw [upd_ne (ne_of_none e HD)]; exact e) (fun b o u e => by rw [upd_ne (ne_of_none e HD)]; exact e) (fun b ps e => ⟨#[], by rw [upd_ne (ne_of_none e HD), e]; simp⟩) (fun m' hm' => by rw [ns_one hm' hm]; exact F2.ns) (fun b u e => ?_) I.bare
        · by_cases hb : b = X.env.locals
          · obtain ⟨o', _, _, ho', _⟩ := F2.ns
            rw [hb]; exact ⟨o', ho'⟩
          · exact ⟨o, keep2 b o hb e⟩
        · by_cases hb : b = D
          · subst hb
            rw [upd_same] at e
            cases e
            exact ⟨hz, its, c, rvs, hD2⟩
          · rw [upd_ne hb] at e
            refine (I.hok b u e).stay (fun c v hc z => ?_) (fun c z => by rw [upd_ne (ne_of_none z HD)]; exact z) fun c ys z => by rw [upd_ne (ne_of_none z HD)]; exact z
            rcases hc with w | w
            · subst w; exact keep2 c v (nL c _ e) z
            · exact keep2 c v (nL c _ w) z
theorem rows_rel {K : PySem.W.Frag} {ρ : List Addr} {H : Hp} : ∀ {l : List D} {vs : List V} {rs : List (List Int)}, RDs K ρ H l vs → rows l = some rs → RowsV H vs rs
  | [], _, _, r, e => by simp only [rows] at e; cases e; simp only [RDs] at r; subst r; exact .nil
  | d :: l, _, rs, r, e => by
    simp only [RDs] at r
    obtain ⟨v, vs, rfl, h1, h2⟩ := r
    cases d <;> simp only [rows] at e <;> try (cases e; done)
    rename_i l1
    cases c1 : intsD l1 with
    | none => rw [c1] at e; cases e
    | some is =>
      cases c2 : rows l with
      | none => rw [c1, c2] at e; cases e
      | some r2 =>
        rw [c1, c2] at e
        cases e
        simp only [RD] at h1
        obtain ⟨p, ws, rfl, hp, rws⟩ := h1
        have := ints_rel rws c1
        subst this
        exact .cons hp (rows_rel h2 c2)
theorem mf_sortR {a : Expr} {fa : EF} (hg : Gl X "sorted") (hm : X.mg "sorted" = none) (ha : ME X a fa) (hs : starEach [a] X.env = (false, eval a X.env) :: starEach [] X.env := by rfl) : MF X (.Call (.Name "sorted" p) [a] [] pos) (lSortR fa) := by
  refine PE.imp (pe_callB call_sortR hg hm (by decide +kernel) (pa_cons ha pa_nil hs) (he := hs)) fun σ H Q zq96 => ?_
  obtain ⟨ρ, σd, hd, rs, pp⟩ := zq96
  refine ⟨ρ, σd, hd, rs, ?_⟩
  unfold lSortR at pp
  cases e : fa σd hd with
  | exc x h' => rw [e] at pp; exact pp
  | bad => rw [e] at pp; exact pp
  | ok d hd1 =>
    rw [e] at pp
    simp only [bind_ok] at pp
    intro v H1 ρ1 e1 rs1 rv
    cases c : lstOf hd1 d with
    | none => rw [c] at pp; exact pp.elim
    | some l =>
      rw [c] at pp
      simp only at pp
      cases c2 : sortedR l with
      | none => rw [c2] at pp; exact pp.elim
      | some l' =>
        rw [c2] at pp
        simp only [sortedR] at c2
        cases c3 : rows l with
        | none => rw [c3] at c2; cases c2
        | some r =>
          rw [c3] at c2
          simp only at c2
          split at c2
          · rename_i hc
            cases c2
            obtain ⟨q, vs, rfl, sq, rvs⟩ := lst_rel rs1.hp rv c
            exact ⟨q, vs, r, rfl, sq, by rw [← rvs.length]; exact hc.1, rows_rel rvs c3, hc.2.1, hc.2.2, pp.mk e1 rs1 rvs⟩
          · cases c2
end
end Fm
set_option Elab.async false
set_option linter.all false
set_option maxRecDepth 100000
namespace Fm
open PySem PySem.Spec L2
section
variable {X : Cx}
theorem mv (i : Nat) {x : Str} {pos : Pos} (hN : X.N[i]? = some x := by rfl) (hv : Vis X.env.scope x := by first | exact Or.inl rfl | exact Or.inr (Or.inl rfl) | exact Or.inr (Or.inr rfl)) (hd : (x == ("__debug__" : Str)) = false := by decide)
    (hcd : (x == ("__classdict__" : Str)) = false := by decide) : ME X (.Name x pos) (fVar i) := me_var hN hv hd hcd
end
theorem hu24 {k : Nat} {A : Around} (r : Room k A) : A.units + 24 < cLine := by have := r.un; omega
noncomputable def FreeIn (X : Cx) : List (Str × NameKind) → Prop
  | [] => True
  | y :: r => (y.2 = .free → X.env.kindOf y.1 = some .cell ∨ X.env.kindOf y.1 = some .free) ∧ FreeIn X r
noncomputable def CapIn (X : Cx) (scope : Scope) : List Str → List Nat → Prop
  | [], [] => True
  | x :: xs, i :: is => (X.N[i]? = some x ∧ scope.names.lookup x = some .free) ∧ CapIn X scope xs is
  | _, _ => False
theorem FreeIn.get {X : Cx} : ∀ {l : List (Str × NameKind)}, FreeIn X l → ∀ y ∈ l, y.2 = .free → X.env.kindOf y.1 = some .cell ∨ X.env.kindOf y.1 = some .free
  | [], _, y, hy => by simp at hy
  | z :: r, h, y, hy => by
    rcases List.mem_cons.mp hy with rfl | hy
    · exact h.1
    · exact FreeIn.get h.2 y hy
theorem CapIn.get {X : Cx} {scope : Scope} : ∀ {capn : List Str} {caps : List Nat}, CapIn X scope capn caps → (∀ (j : Nat) x, capn[j]? = some x → ∃ i, caps[j]? = some i ∧ X.N[i]? = some x ∧ scope.names.lookup x = some .free) ∧ capn.length = caps.length
  | [], [], _ => ⟨fun j x e => by simp at e, rfl⟩
  | x :: xs, i :: is, h => by
    obtain ⟨h1, h2⟩ := CapIn.get h.2
    refine ⟨fun j y e => ?_, by simp [h2]⟩
    cases j with
    | zero => simp at e; subst e; exact ⟨i, rfl, h.1⟩
    | succ j => exact h1 j y (by simpa using e)
  | [], _ :: _, h => h.elim
  | _ :: _, [], h => h.elim
theorem FreeIn.nil {X : Cx} : FreeIn X [] := trivial
theorem FreeIn.cons {X : Cx} {y : Str × NameKind} {r : List (Str × NameKind)} (h : y.2 = .free → X.env.kindOf y.1 = some .cell ∨ X.env.kindOf y.1 = some .free) (t : FreeIn X r) : FreeIn X (y :: r) := ⟨h, t⟩
theorem CapIn.nil {X : Cx} {scope : Scope} : CapIn X scope [] [] := trivial
theorem CapIn.cons {X : Cx} {scope : Scope} {x : Str} {xs : List Str} {i : Nat} {is : List Nat} (h1 : X.N[i]? = some x) (h2 : scope.names.lookup x = some .free) (t : CapIn X scope xs is) : CapIn X scope (x :: xs) (i :: is) := ⟨⟨h1, h2⟩, t⟩
theorem CScope.mk' {X : Cx} {scope : Scope} {own capn : List Str} {caps : List Nat} (k : scope.kind = .function) (c : ∀ y ∈ scope.names, y.2 ≠ .cell) (n : ∀ y ∈ scope.names, y.2 = .local → scope.names.lookup y.1 = some .local) (f : FreeIn X scope.names) (cp : CapIn X scope capn caps) : CScope X scope own capn caps :=
  ⟨k, c, n, f.get, cp.get.1, cp.get.2⟩
end Fm
set_option Elab.async false
set_option linter.all false
set_option maxRecDepth 100000
namespace Fm
open PySem PySem.Spec L2
section
variable {K : PySem.W.Frag} {ρ : List Addr} {H : Hp}
end
section
variable {X : Cx} {pos : Pos}
theorem me_negC {i : Int} {j : Nat} {p2 : Pos} : ME X (.UnaryOp .USub (.Constant (.int i) j p2) pos) (fC (.int (-i))) :=
  PE.imp (pe_un un_neg pe_int) fun σ H Q ⟨ρ, σd, hd, rs, p⟩ => ⟨i, rfl, p.here rs (by simp only [rD, RD])⟩
end
end Fm
set_option Elab.async false
set_option linter.all false
set_option maxRecDepth 100000
namespace Fm
open PySem PySem.Spec L2 PySem.W PyProof.Rows
section
variable {cmp : Nat → Nat → (Bool → Shared → Prop) → Shared → Prop} {n : Nat} {s : Shared} {lt : Nat → Nat → Bool}
structure Ord (lt : Nat → Nat → Bool) (n : Nat) : Prop where
  asy : ∀ i j, i < n → j < n → lt i j = true → lt j i = false
  tr : ∀ i j k, i < n → j < n → k < n → lt i j = true → lt j k = true → lt i k = true
  tot : ∀ i j, i < n → j < n → i ≠ j → lt i j = false → lt j i = true
structure Gd (n : Nat) (p : Array Nat) : Prop where
  sz : p.size = n
  pm : p.Perm (List.toArray (List.range n))
variable (O : Ord lt n) (hc : ∀ i j, i < n → j < n → ∀ C : Bool → Shared → Prop, C (lt i j) s → cmp i j C s)
include O hc
end
end Fm
set_option linter.all false
namespace Fm
end Fm
set_option Elab.async false
set_option linter.all false
set_option maxRecDepth 100000
namespace Fm
open PySem PySem.Spec L2 PySem.W PyProof.Rows
section
variable {X : Cx} {pos p : Pos}
end
end Fm
set_option Elab.async false
set_option linter.all false
set_option maxRecDepth 100000
namespace Fm
open PySem PySem.Spec L2 PySem.W PyProof.Rows
section
variable {X : Cx} {pos p : Pos}
theorem RDs.rep {K : PySem.W.Frag} {ρ : List Addr} {H : Hp} {l : List D} {vs : List V} (r : RDs K ρ H l vs) : ∀ k, RDs K ρ H (List.replicate k l).flatten (List.replicate k vs).flatten
  | 0 => RDs.nil
  | k + 1 => by
    rw [List.replicate_succ, List.replicate_succ, List.flatten_cons, List.flatten_cons]
    exact RDs.append r (RDs.rep r k)
end
end Fm
set_option Elab.async false
set_option linter.all false
set_option maxRecDepth 100000
namespace L2
open PySem PySem.Spec PyProof.Rows
section
variable {κ : Type} [DecidableEq κ]
end
section
variable {P : Program} {w : World} {H : Hp} {h : Heap} {a : Addr}
end
section
variable {X : Cx} {pins : List (Addr × Obj)} {σ : St} {H : Hp} {s : Shared} {a : Addr} {y v : V} {u r : Value} {o : Option V} {A : Around} {E : Value → Shared → Prop}
end
section
variable {X : Cx} {pins : List (Addr × Obj)} {σ : St} {H : Hp} {s : Shared} {a : Addr} {kvs : List (Key × V)} {k : Key} {u : Value} {A : Around} {E : Value → Shared → Prop}
end
section
variable {X : Cx} {o i e value : Expr} {pos pos' tpos : Pos} {td ty tv : TE}
end
section
variable {X : Cx} {pos : Pos}
end
structure M1 (X : Cx) (o : Expr) (m : Str) (apos : Pos) (e : Expr) (cpos : Pos) : Prop where
  base : attributeBase o m X.env (eval o X.env) = eval o X.env
  few : ((backTo cpos (starEach [e] X.env)).all (fun x => !x.1) && (backToKw cpos (keywordEach [] X.env)).all (fun x => x.1.isSome)
    && decide (([e] : List Expr).length + ([] : List Keyword).length + (if ([] : List Keyword).isEmpty then 0 else 1) < 30)) = true
  line : (apos.endLine == cpos.line) = true
  trees : backTo cpos (starEach [e] X.env) = [(false, eval e X.env)]
structure M2 (X : Cx) (o : Expr) (m : Str) (apos : Pos) (e f : Expr) (cpos : Pos) : Prop where
  base : attributeBase o m X.env (eval o X.env) = eval o X.env
  few : ((backTo cpos (starEach [e, f] X.env)).all (fun x => !x.1) && (backToKw cpos (keywordEach [] X.env)).all (fun x => x.1.isSome)
    && decide (([e, f] : List Expr).length + ([] : List Keyword).length + (if ([] : List Keyword).isEmpty then 0 else 1) < 30)) = true
  line : (apos.endLine == cpos.line) = true
  trees : backTo cpos (starEach [e, f] X.env) = [(false, eval e X.env), (false, eval f X.env)]
section
variable {X : Cx} {pins : List (Addr × Obj)} {σ : St} {H : Hp} {s : Shared} {a : Addr} {y d : V} {u r : Value} {o : Option V} {A : Around} {E : Value → Shared → Prop}
end
section
variable {X : Cx} {o e f : Expr} {apos cpos : Pos} {td ty tx : TE}
end
section
variable {X : Cx} {pins : List (Addr × Obj)} {σ : St} {H : Hp} {s : Shared} {a : Addr} {kvs : List (Key × V)} {A : Around} {E : Value → Shared → Prop}
end
section
variable {X : Cx} {pins : List (Addr × Obj)} {σ : St} {H : Hp} {s : Shared} {a : Addr} {y : V} {u : Value} {A : Around} {E : Value → Shared → Prop}
end
end L2
set_option linter.all false
namespace Fm
end Fm
set_option Elab.async false
set_option linter.all false
set_option maxRecDepth 100000
namespace Fm
open PySem PySem.Spec L2 PySem.W PyProof.Rows
section
variable {K : PySem.W.Frag} {ρ : List Addr} {H : Hp} {hd : Hd}
end
section
variable {X : Cx} {pos p : Pos}
end
end Fm
set_option Elab.async false
set_option linter.all false
set_option maxRecDepth 100000
namespace Fm
open PySem PySem.Spec L2 PySem.W PyProof.Rows
section
variable {X : Cx} {pos p : Pos}
end
end Fm
set_option Elab.async false
set_option linter.all false
set_option maxRecDepth 100000
namespace Fm
open PySem PySem.Spec L2 PySem.W PyProof.Rows
section
variable {X : Cx} {pos p : Pos}
noncomputable def ov : List Addr → List (List Int) → Hp → Hp
  | a :: as, r :: rs, H => upd (ov as rs H) a (.tup (r.map V.int))
  | _, _, H => H
end
end Fm
set_option linter.all false
namespace Fm
@[simp] noncomputable def lRep (la : LF) (b : EF) : LF := fun σ h => (la σ h).bind fun l h => (b σ h).bind fun y h => match y with
  | .int n => if 0 ≤ n ∧ n ≤ 1000 ∧ l.length * n.toNat ≤ 1000 then .ok (List.replicate n.toNat l).flatten h else .bad
  | _ => .bad
@[simp] noncomputable def fIns (x i e : EF) : EF := fun σ h => (x σ h).bind fun p h => match p with
  | .ref n => match h[n]? with
    | some (.lst _) => (i σ h).bind fun j h => (e σ h).bind fun d h => match j with
      | .int k => match h[n]? with
        | some (.lst l) => if 0 ≤ k ∧ k ≤ l.length ∧ l.length < SZ then .ok .non (h.set n (.lst (l.take k.toNat ++ [d] ++ l.drop k.toNat))) else .bad
        | _ => .bad
      | _ => .bad
    | _ => .bad
  | _ => .bad
@[simp] noncomputable def lCatE (a b : EF) : LF := fun σ h => (a σ h).bind fun x h => (b σ h).bind fun y h => match x, y with
  | .ref n, .ref m => match h[n]?, h[m]? with
    | some (.lst l), some (.lst k) => if l.length + k.length ≤ SZ then .ok (l ++ k) h else .bad
    | _, _ => .bad
  | _, _ => .bad
@[simp] noncomputable def oAddT : O2 := fun x y h => match x, y with
  | .tup xs, .tup ys => if xs.length + ys.length ≤ SZ then .ok (.tup (xs ++ ys)) h else .bad
  | _, _ => .bad
end Fm
set_option Elab.async false
set_option linter.all false
set_option maxRecDepth 100000
namespace Fm
open PySem PySem.Spec L2 PySem.W PyProof.Rows
section
variable {X : Cx} {pos p : Pos}
theorem mf_rep {a b : Expr} {la : LF} {fb : EF} (ha : MF X a la) (hb : ME X b fb) : MF X (.BinOp a .Mult b pos) (lRep la fb) := by
  refine PE.imp (pe_op op_rep ha hb) fun σ H Q zq97 => ?_
  obtain ⟨ρ, σd, hd, rs, pp⟩ := zq97
  refine ⟨ρ, σd, hd, rs, ?_⟩
  unfold lRep at pp
  cases e : la σd hd with
  | exc x h' => rw [e] at pp; exact pp
  | bad => rw [e] at pp; exact pp
  | ok l hd1 =>
    rw [e] at pp
    simp only [bind_ok] at pp
    intro q vs H1 ρ1 e1 rs1 hq0 hq hn rvs
    refine ⟨ρ1, σd, hd1, rs1, ?_⟩
    cases e2 : fb σd hd1 with
    | exc x h' => rw [e2] at pp; exact pp
    | bad => rw [e2] at pp; exact pp
    | ok y hd2 =>
      rw [e2] at pp
      simp only [bind_ok] at pp
      intro v H2 ρ2 ex2 rs2 rv
      cases y <;> try exact pp.elim
      rename_i n
      simp only at pp
      split at pp
      · rename_i hz
        simp only [rD, RD] at rv
        subst rv
        have hq2 : H2 q = some (.lst vs) := ex2.frame q _ hq hn
        have rvs2 := rvs.mono (rs1.hp.kp ex2)
        refine ⟨q, n, vs, rfl, rfl, hq2, by omega, by omega, by rw [← rvs.length, sizeLine_eq]; omega, fun p' hp' => ?_⟩
        exact PostF.mk pp (e1.trans ex2) rs2 (RDs.rep rvs2 n.toNat) p' hp'
      · exact pp.elim
theorem mf_catE {a b : Expr} {fa fb : EF} (ha : ME X a fa) (hb : ME X b fb) : MF X (.BinOp a .Add b pos) (lCatE fa fb) := by
  refine PE.imp (pe_op op_cat ha hb) fun σ H Q zq98 => ?_
  obtain ⟨ρ, σd, hd, rs, pp⟩ := zq98
  refine ⟨ρ, σd, hd, rs, ?_⟩
  unfold lCatE at pp
  cases e : fa σd hd with
  | exc x h' => rw [e] at pp; exact pp
  | bad => rw [e] at pp; exact pp
  | ok d hd1 =>
    rw [e] at pp
    simp only [bind_ok] at pp
    intro v H1 ρ1 e1 rs1 rv
    refine ⟨ρ1, σd, hd1, rs1, ?_⟩
    cases e2 : fb σd hd1 with
    | exc x h' => rw [e2] at pp; exact pp
    | bad => rw [e2] at pp; exact pp
    | ok k hd2 =>
      rw [e2] at pp
      simp only [bind_ok] at pp
      intro w H2 ρ2 ex2 rs2 rw'
      cases d with
      | ref n =>
        cases k with
        | ref m =>
          simp only at pp
          simp only [rD, RD] at rv rw'
          obtain ⟨a1, ha1, rfl⟩ := rv
          obtain ⟨b1, hb1, rfl⟩ := rw'
          have ha2 := ex2.get ha1
          cases c1 : hd2[n]? with
          | none => rw [c1] at pp; exact pp.elim
          | some x1 =>
            cases c2 : hd2[m]? with
            | none => rw [c1, c2] at pp; cases x1 <;> exact pp.elim
            | some x2 =>
              rw [c1, c2] at pp
              cases x1 with
              | dct _ => exact pp.elim
              | lst l =>
                cases x2 with
                | dct _ => exact pp.elim
                | lst k =>
                  simp only at pp
                  split at pp
                  · rename_i hz
                    obtain ⟨vs1, hv1, rvs1⟩ := rs2.hp.cel n _ a1 c1 ha2
                    obtain ⟨vs2, hv2, rvs2⟩ := rs2.hp.cel m _ b1 c2 hb1
                    refine ⟨a1, b1, vs1, vs2, rfl, rfl, hv1, hv2, by rw [← rvs1.length, ← rvs2.length]; exact sz_line hz, fun p' hp' => ?_⟩
                    exact PostF.mk pp (e1.trans ex2) rs2 (RDs.append rvs1 rvs2) p' hp'
                  · exact pp.elim
        | _ => exact pp.elim
      | _ => exact pp.elim
theorem tuple_addW0 (l b : Addr) (items items2 : Array Value) (n n2 : Nat) (dd dd2 : Option Addr) (sl sl2 : Array (Option Value)) (hc0 : items.isEmpty = true) :
    Meets (Builtin.«tuple.__add__» ⟨[.ref l, .ref b], []⟩) (fun _ R s => s.heap.get? l = some { cls := .type "tuple", dict := dd, data := .seq items n, slots := sl } ∧ s.heap.get? b = some { cls := .type "tuple", dict := dd2, data := .seq items2 n2, slots := sl2 } ∧ R (.ok (.ret (Value.ref b))) s) :=
  .of_wp fun prog w A R s h => by obtain ⟨hp, g, d, tk, os⟩ := s; obtain ⟨hl, hb, h⟩ := h; have f1 := PySem.AutoSeq1.idx_int; have f2 := PySem.AutoSeq1.sub_tuple_tuple; wp_walk using wpAny_loadPart' hl, wpAny_loadPart' hb; exact ⟨_, rfl, h⟩
noncomputable def rCat0 (K : PySem.W.Frag) : R2 := fun x y H Q => ∃ a b ys, x = .ref a ∧ y = .ref b ∧ SqT K H a [] ∧ SqT K H b ys ∧ Q (.ref b) H
theorem op_cat0 : OpR X (binaryOp .Add) (rCat0 X.K) := by
  intro pins s σ H x y v u Q I rx ry h
  obtain ⟨a, b, ys, rfl, rfl, ha, hb, q⟩ := h
  cases rx
  cases ry
  obtain ⟨its, r1, p1, _⟩ := I.tuple ha
  obtain ⟨its2, r2, p2, _⟩ := I.tuple hb
  cases r1
  obtain ⟨⟨cls, dd, data, sl⟩, ho, hc, n, hd⟩ := id p1
  obtain ⟨⟨cls2, dd2, data2, sl2⟩, ho2, hc2, n2, hd2⟩ := id p2
  simp only at hc hd hc2 hd2
  subst hc hd hc2 hd2
  exact concat_meets ⟨_, ho, rfl⟩ ⟨_, ho2, rfl⟩ noFill_tuple_add seq_tuple_add PySem.F.slot_tuple_add PySem.F.entry_tuple_add (PySem.F.args_tuple_add_2 _ _)
    (tuple_addW0 a b _ its2.toArray n n2 dd dd2 sl sl2 rfl) ⟨ho, ho2, ⟨.ref b, H, I, rfl, q⟩⟩
theorem op_addT : OpR X (binaryOp .Add) (fun x y H Q => rCat0 X.K x y H Q ∨ rCatT X.K x y H Q) := op_cat0.or op_catT
theorem og_addT {K : PySem.W.Frag} : Og K oAddT (fun x y H Q => rCat0 K x y H Q ∨ rCatT K x y H Q) := by
  intro ρ H σd hd σ d k v w Q rs rv rw' pp
  cases d with
  | tup xs =>
    cases k with
    | tup ys =>
      simp only [oAddT] at pp
      split at pp
      · rename_i hz
        simp only [RD] at rv
        obtain ⟨a, vs, rfl, ha, rvs⟩ := rv
        have rw2 := rw'
        simp only [RD] at rw'
        obtain ⟨b, ws, rfl, hb, rws⟩ := rw'
        cases xs with
        | nil =>
          simp only [RDs] at rvs
          subst rvs
          exact .inl ⟨a, b, ws, rfl, rfl, SqT.of ha, SqT.of hb, pp.here rs (by simpa using rw2)⟩
        | cons x xs =>
          refine .inr ⟨a, b, vs, ws, rfl, rfl, SqT.of ha, SqT.of hb, ?_, ?_, fun z => ?_, fun _ q hq => ?_⟩
          · intro z; subst z; have := rvs.length; simp at this
          · rw [← rvs.length, ← rws.length]; exact sz_line hz
          · subst z
            have hy : ys = [] := by have := rws.length; simpa using this
            subst hy
            exact pp.here rs (by simp only [rD, RD]; exact ⟨a, vs, rfl, ha, by simpa using rvs⟩)
          · have sm := same_upd (o := HO.tup (vs ++ ws)) hq
            exact pp.at (Ext.same sm) (rs.same sm) (by simp only [rD, RD]; exact ⟨q, _, rfl, upd_same, (RDs.append rvs rws).mono (Kp.same sm)⟩)
      · exact pp.elim
    | _ => exact pp.elim
  | _ => exact pp.elim
end
end Fm
set_option linter.all false
namespace Fm
noncomputable section
open Classical
end
end Fm
set_option Elab.async false
set_option linter.all false
set_option maxRecDepth 100000
namespace Fm
open PySem PySem.Spec L2
open PyProof.Rows (Call_)
section
variable {prog : Program} {w : World} {A : Around} {E : Value → Shared → Prop} {s : Shared} {z TI TO i1 i2 l1 l2 : Addr} {k : Nat} {xs ys : Array Value} {a b : Value}
end
section
variable {prog : Program} {w : World} {A : Around} {E : Value → Shared → Prop} {s : Shared}
end
section
variable {X : Cx} {pos p tp : Pos} {elts : List Expr} {tk : Nat}
end
end Fm
set_option Elab.async false
set_option linter.all false
set_option maxRecDepth 100000
namespace Fm
open PySem PySem.Spec L2 PySem.W PyProof.Rows
section
variable {X : Cx} {pos p : Pos}
end
section
variable {prog : Program} {w : World} {A : Around} {E : Value → Shared → Prop} {s : Shared}
end
section
variable {X : Cx} {pos p : Pos}
end
end Fm
set_option Elab.async false
set_option linter.all false
set_option maxRecDepth 100000
namespace Fm
open PySem PySem.Spec L2
open AutoSeq1 (wpAny_loadPart')
open PyProof.Rows (Call_)
section
variable {X : Cx} {pos p tp : Pos} {elts : List Expr} {tk : Nat}
end
section
variable {X : Cx} {pos : Pos} {tg : Expr}
end
end Fm
set_option linter.all false
namespace Fm
end Fm
set_option Elab.async false
set_option linter.all false
set_option maxRecDepth 100000
namespace Fm
open PySem PySem.Spec L2
open PyProof.Rows (Call_)
section
variable {X : Cx} {pos p p2 pos2 : Pos}
end
end Fm
set_option linter.all false
namespace Fm
end Fm
set_option linter.all false
namespace Fm
noncomputable section
open Classical
end
end Fm
set_option Elab.async false
set_option linter.all false
set_option maxRecDepth 100000
namespace Fm
open PySem PySem.Spec L2
section
variable {X : Cx} {pos : Pos} {scope : Scope} {own capn : List Str} {caps : List Nat}
end
section
variable {X : Cx}
end
end Fm
set_option Elab.async false
set_option linter.all false
set_option maxRecDepth 100000
namespace L2
open PySem PySem.Spec PyProof.Rows PySem.W PySem.Builtin PySem.Builtin.ObjectAttr PySem.Builtin.Getset_descriptor
structure XCls (K : PySem.W.Frag) (D : Addr) : Prop where
  ga : PySem.W.findIn K (.ref D) "__getattribute__" = some (some (.builtin "BaseException.__getattribute__"))
  gt : PySem.W.findIn K (.ref D) "__getattr__" = some none
  cl : PySem.W.findIn K (.ref D) "__class__" = some (some (.builtin "object.__class__"))
  be : PySem.W.subIn K (.ref D) (.type "BaseException") = some true
  ob : PySem.W.mroIn K D (.type "object") = some true
  is : (PySem.W.clsIn K D).isSome = true
section
variable {prog : Program} {w : World} {A : Around} {E : Value → Shared → Prop} {K : PySem.W.Frag} {D : Addr} {h : Heap} {g : Array GenState} {d : Drawn} {t : Nat} {os : OsState} {a : Addr} {o : Obj} {vs : Array Value}
structure XIns (h : Heap) (a D : Addr) (o : Obj) : Prop where
  at_ : h.get? a = some o
  cls : o.cls = .ref D
theorem XIns.type {M : Model} (I : XIns h a D o) : PySem.W.Looks M h (typeOf (.ref a)) (.ref D) := I.cls ▸ (PySem.W.Looks.ld I.at_).andThen .now
theorem xc_get {R : Result → Shared → Prop} {tp : Value} (X : K.In h) (I : XIns h a D o) (hm : PySem.W.mroIn K D (.type "object") = some true) (hq : R (.ok (.ret (.ref D))) ⟨h, g, d, t, os⟩) :
    codeAny (model prog w) A (.call (.builtin "getset_descriptor.__get__") ⟨[.builtin "object.__class__", .ref a, tp], []⟩) R ⟨h, g, d, t, os⟩ := by
  have hT5 : (⟨h, g, d, t, os⟩ : Shared).TypeIs (.builtin "object.__class__") "getset_descriptor" := F.typeOf_object_class
  have L0 := I.type (M := model prog w)
  have L1 := PySem.W.looks_mroIn (M := model prog w) X hm
  refine codeAny_call_builtin F.slot_gs_get.plain F.entry_gs_get (F.slot_gs_get.check _ _ _ _ _ _ _ _ hT5 (F.args_gs_get _ _ _) ?_)
  unfold Builtin.«getset_descriptor.__get__» descrGet
  rw [PySem.W.dga_obj]
  refine wpAny_bind (wpAny_pure ?_); unfold descrGetter descrCheckInstance descrNameAndClass isInstance
  simp only [KF.owner_class]
  repeat (first | with_reducible refine L0.at ?_ | with_reducible refine L1.at ?_ | lk)
  refine ⟨Code.quiet_builtin _ (by decide +kernel), codeAny_builtin F.entry_object_class ?_⟩
  unfold Builtin.«object.__class__» shownTypeOf
  repeat (first | with_reducible refine L0.at ?_ | lk)
  exact hq
theorem xc_entry {tk : Tok} {Q : Fin → Shared → Prop} (Z : XCls K D) (X : K.In h) (I : XIns h a D o) (hq : Q (.done (.ret (.ref D))) ⟨h, g, d, t, os⟩) :
    wpAny (model prog w) A (Builtin.«object.__getattribute__» ⟨[.ref a, .str "__class__" tk], []⟩) Q E ⟨h, g, d, t, os⟩ := by
  have L0 := I.type (M := model prog w)
  have L1 := PySem.W.looks_findIn (M := model prog w) X Z.cl
  have hT5 : (⟨h, g, d, t, os⟩ : Shared).TypeIs (.builtin "object.__class__") "getset_descriptor" := F.typeOf_object_class
  have f5 := F.typeOf_object_class
  have f6 := F.slot_gs_get.lookup
  have f7 := F.slot_gs_set.lookup
  repeat (any_goals (first | assumption | with_reducible refine L0.at ?_ | with_reducible refine L1.at ?_ | wp_step))
  refine xc_get X I Z.ob ?_
  repeat (any_goals (first | assumption | wp_step))
theorem xc_check {M : Model} {nameV : Value} {Q : Unit → Shared → Prop} (Z : XCls K D) (X : K.In h) (I : XIns h a D o) (hq : Q () ⟨h, g, d, t, os⟩) :
    wpAny M A (checkBuiltinCall "BaseException.__getattribute__" ⟨[.ref a, nameV], []⟩) Q E ⟨h, g, d, t, os⟩ := by
  have hk : builtinKind "BaseException.__getattribute__" = some .slot := by decide +kernel
  have hsplit : splitId "BaseException.__getattribute__" = some ("BaseException", "__getattribute__") := by decide +kernel
  have ha := F.args_bexc_ga (.ref a) nameV
  have L0 := I.type (M := M)
  have L1 := PySem.W.looks_subIn (M := M) X Z.be
  simp only [checkBuiltinCall, hk, hsplit]
  refine wpAny_bind ?_
  unfold isInstance
  repeat (first | with_reducible refine L0.at ?_ | with_reducible refine L1.at ?_ | wp_step)
  exact hq
theorem xc_call {tk : Tok} {R : Result → Shared → Prop} (Z : XCls K D) (X : K.In h) (I : XIns h a D o) (hq : R (.ok (.ret (.ref D))) ⟨h, g, d, t, os⟩) :
    codeAny (model prog w) A (.call (.builtin "BaseException.__getattribute__") ⟨[.ref a, .str "__class__" tk], []⟩) R ⟨h, g, d, t, os⟩ :=
  codeAny_call_builtin F.attr_ValueError.ga.plain F.entry_bexc_ga (xc_check Z X I (xc_entry Z X I hq))
theorem xc_by {tk : Tok} {fill expr : Bool} {Q : Value → Shared → Prop} (Z : XCls K D) (X : K.In h) (I : XIns h a D o) (hq : Q (.ref D) ⟨h, g, d, t, os⟩) :
    wpAny (model prog w) A (getAttrBy (.ref a) (.str "__class__" tk) fill expr) Q E ⟨h, g, d, t, os⟩ := by
  have f3 := F.attr_ValueError.ga.bind (.ref a)
  have hx0 : (expr && onTheHeap (Value.builtin "BaseException.__getattribute__")) = false := by cases expr <;> rfl
  have hx2 : (Value.builtin "BaseException.__getattribute__" == Value.builtin "object.__getattribute__") = false := by decide +kernel
  have hx1 : (onTheHeap (Value.ref D) && Value.builtin "BaseException.__getattribute__" == Value.builtin "object.__getattribute__") = false := by rw [hx2]; rfl
  have L0 := I.type (M := model prog w)
  have L1 := PySem.W.looks_findIn (M := model prog w) X Z.ga
  have L2 := PySem.W.looks_findIn (M := model prog w) X Z.gt
  repeat (any_goals (first | assumption | with_reducible refine L0.at ?_ | with_reducible refine L1.at ?_ | with_reducible refine L2.at ?_ | wp_step))
  refine xc_call Z X I ?_
  repeat (any_goals (first | assumption | wp_step))
theorem xc_attr {Q : Option Value → Shared → Prop} (Z : XCls K D) (X : K.In h) (I : XIns h a D o) (hq : Q (some (.ref D)) ⟨h, g, d, t + 1, os⟩) :
    wpAny (model prog w) A (getAttr? (.ref a) "__class__") Q E ⟨h, g, d, t, os⟩ := by
  unfold getAttr? getAttrBy?
  repeat (any_goals (first | assumption | with_reducible apply xc_by Z X I | wp_step))
theorem xc_kit (Z : XCls K D) : PySem.W.KitX K (.ref a) (.ref D) (fun h => ∃ o, XIns h a D o) where
  ty := fun _ _ _ ⟨o, I⟩ => I.type
  it := fun _ _ X _ => by
    obtain ⟨cd, hc⟩ := Option.isSome_iff_exists.mp Z.is
    unfold PySem.W.clsIn at hc
    split at hc
    · rename_i c' d' cd' sl' ho
      intro A' Q' E' s' k q
      unfold isType loadHead
      exact wpAny_bind (wpAny_loadPart (k _ _ (X _ _ ho)) (wpAny_pure q))
    · cases hc
  ne := fun h tp dd its n sl X htp => by
    obtain ⟨cd, hc⟩ := Option.isSome_iff_exists.mp Z.is
    refine Bool.eq_false_iff.mpr fun q => ?_
    have e : D = tp := Value.ref.inj (beq_iff_eq.mp q)
    subst e
    unfold PySem.W.clsIn at hc
    split at hc
    · rename_i c' d' cd' sl' ho
      have z := (X _ _ ho).symm.trans htp
      cases z
    · cases hc
  ca := fun {_ _ _ _ _ s} X ⟨o, I⟩ k => by obtain ⟨h, g, d, t, os⟩ := s; exact xc_attr Z X I k
theorem xc_match {M : Model} {B : Addr} {Q : Bool → Shared → Prop} (X : K.In h) (I : XIns h a D o) (hs : PySem.W.subIn K (.ref D) (.ref B) = some true) (hb : PySem.W.subIn K (.ref B) (.type "BaseException") = some true)
    (hc : (PySem.W.clsIn K B).isSome = true) (ht : PySem.W.typeIn K (.ref B) = some (.type "type")) (hq : Q true ⟨h, g, d, t, os⟩) : wpAny M A (excMatches (.ref a) (.ref B)) Q E ⟨h, g, d, t, os⟩ := by
  have L0 := I.type (M := M)
  have L1 := PySem.W.looks_subIn (M := M) X hs
  have L2 := PySem.W.looks_subIn (M := M) X hb
  have L3 := PySem.W.looks_typeIn (M := M) X ht
  have f := tc_notTuple
  obtain ⟨cd, hcd⟩ := Option.isSome_iff_exists.mp hc
  unfold PySem.W.clsIn at hcd
  split at hcd
  · rename_i c' d' cd' sl' ho
    have hB := X _ _ ho
    unfold excMatches
    repeat (first | with_reducible refine L0.at ?_ | with_reducible refine L1.at ?_ | with_reducible refine L2.at ?_ | with_reducible refine L3.at ?_ | with_reducible refine wpAny_loadPart_at hB ?_ | wp_step)
    exact hq
  · cases hcd
end
end L2
set_option Elab.async false
set_option linter.all false
set_option maxRecDepth 100000
namespace L2
open PySem PySem.Spec PyProof.Rows
section
variable {P : Program} {w : World} {H : Hp} {h : Heap} {a : Addr} {o : HO}
theorem ObjOk.obj (x : ObjOk P w H h a o) : ∃ ob, h.get? a = some ob := by
  induction o with
  | lst xs => obtain ⟨_, _, _, _, e⟩ := x; exact ⟨_, e⟩
  | tup xs => obtain ⟨_, _, _, ob, e, _⟩ := x; exact ⟨_, e⟩
  | dK kvs => obtain ⟨_, _, _, _, o, _, _, e, _⟩ := x; exact ⟨_, e⟩
  | dT kvs => obtain ⟨_, _, _, _, o, _, _, e, _⟩ := x; exact ⟨_, e⟩
  | set S n => obtain ⟨o, _, _, _, e, _⟩ := x; exact ⟨_, e⟩
  | ins C dx fs => obtain ⟨_, _, _, e, _⟩ := x; exact ⟨_, e⟩
  | own y => obtain ⟨_, e⟩ := x; exact ⟨_, e⟩
  | xd fs => obtain ⟨_, ⟨ob, _, _, e, _⟩, _⟩ := x; exact ⟨_, e⟩
  | rng lo hi => obtain ⟨_, _, _, e⟩ := x; exact ⟨_, e⟩
  | frz ob u ih => obtain ⟨e, _⟩ := x; exact ⟨_, e⟩
  | tbl ps => exact ⟨_, x⟩
  | met f y => exact ⟨_, x⟩
  | ext φ => obtain ⟨_, ⟨ob, e⟩, _⟩ := x; exact ⟨_, e⟩
end
structure Cov (X : Cx) (pins : List (Addr × Obj)) (H : Hp) (B : Heap) : Prop where
  trk : ∀ b u, H b = some u → ∃ o, B.get? b = some o
  old : ∀ b o, X.s₀.heap.get? b = some o → b ∉ frs X.stack → b ∉ X.ex → ∃ o, B.get? b = some o
  pin : ∀ p ∈ X.pn ++ pins, ∃ o, B.get? p.1 = some o
section
variable {X : Cx} {pins : List (Addr × Obj)} {σ : St} {H : Hp} {s : Shared} {B h' : Heap}
theorem Inv.flown (I : Inv X pins σ H s) (b1 : B.StaysIn s.heap) (b2 : B.StaysIn h') (sm : s.heap.UpToSlots h') (c : Cov X pins H B) (t' : Nat) : Inv X pins σ H { s with heap := h', toks := t' } := by
  have same : ∀ b o, (∃ u, B.get? b = some u) → s.heap.get? b = some o → h'.get? b = some o := fun b o ⟨u, e⟩ q => by
    have := b1 b u e
    rw [q] at this; cases this
    exact b2 b _ e
  have nst : ∀ b o, X.s₀.heap.get? b = some o → b ∉ X.fs → b ∉ frs X.stack := fun b o e hb hs => by
    rcases List.mem_cons.mp (I.stkSub b hs) with z | z
    · exact absurd z (Nat.ne_of_lt (Nat.lt_of_lt_of_le (Heap.lt_size e) I.ok.above))
    · exact hb z
  have fsl : ∀ b o, b ∈ X.fs → s.heap.get? b = some o → ∃ sl, h'.get? b = some { o with slots := sl } := fun b o hb e => by
    obtain ⟨_, o', ho', nf⟩ := I.funs.mem hb
    rw [e] at ho'; cases ho'
    exact sm b o e nf
  have cellK : ∀ c v, s.heap.IsCell c v → h'.IsCell c v := fun c v ⟨o, ho, hd⟩ => by
    obtain ⟨sl, q⟩ := sm c o ho (fun vs z => by rw [hd] at z; cases z)
    exact ⟨_, q, hd⟩
  refine ⟨I.ok, I.os, I.bare, ⟨fun b o e n hb hx => ?_, fun b o e n hb hx => ?_, I.base.free, fun b o e hx => ?_, I.base.tups, I.base.frzs, I.base.tbls⟩, ?_, fun x c e => ?_, I.free, I.freeC, fun p hp => ?_, fun b u e => ?_, I.len⟩
  · exact same b o (c.old b o e (nst b o e hb) hx) (I.base.keep b o e n hb hx)
  · obtain ⟨sl, e1⟩ := I.base.slot b o e n hb hx
    obtain ⟨sl', e2⟩ := fsl b _ hb e1
    exact ⟨sl', e2⟩
  · obtain ⟨o', e1⟩ := I.base.there b o e hx
    by_cases hb : b ∈ X.fs
    · obtain ⟨sl, e2⟩ := fsl b o' hb e1; exact ⟨_, e2⟩
    · exact ⟨o', same b o' (c.old b o e (nst b o e hb) hx) e1⟩
  · obtain ⟨m, hn, hl⟩ := I.loc
    refine ⟨m, sm.ns hn, fun i x v e1 e2 e3 => ?_⟩
    obtain ⟨u, r, l⟩ := hl i x v e1 e2 e3
    refine ⟨u, r, ?_⟩
    rcases l with l | ⟨k, c, e, z⟩
    · exact .inl l
    · exact .inr ⟨k, c, e, cellK c _ z⟩
  · obtain ⟨v, z⟩ := I.cell x c e
    exact ⟨v, cellK c v z⟩
  · obtain ⟨e, n, ne, nf, d⟩ := I.pin p hp
    exact ⟨same _ _ (c.pin p hp) e, n, ne, nf, d⟩
  · refine (I.hok b u e).stay (fun c' v hc q => same c' v ?_ q) (fun _ q => q) fun _ _ q => q
    rcases hc with z | z
    · rw [z]; exact c.trk b u e
    · exact c.trk c' _ z
noncomputable def XF (X : Cx) (E : Addr → Hp → Prop) (e : Value) (s' : Shared) : Prop := ∃ pins σ H a C B t, e = .ref a ∧ Inv X pins σ H s' ∧ Heap.FlyingW B X.stack a (.ref C) (.ref t) s'.heap ∧ Cov X pins H B ∧ E C H
noncomputable def XAt (X : Cx) (pins : List (Addr × Obj)) (σ : St) (H : Hp) (a C : Addr) (s' : Shared) : Prop :=
  (∃ s1 h' vs, Inv X pins σ H s1 ∧ Heap.MadeExcOf s1.heap h' a (.ref C) vs ∧ s' = { s1 with heap := h' }) ∨
  (∃ B t, Inv X pins σ H s' ∧ Heap.FlyingW B X.stack a (.ref C) (.ref t) s'.heap ∧ Cov X pins H B)
noncomputable def XP (X : Cx) (E : Addr → Hp → Prop) (e : Value) (s' : Shared) : Prop := ∃ pins σ H a C, e = .ref a ∧ XAt X pins σ H a C s' ∧ E C H
noncomputable def CX1 (P : Program) (w : World) : CXT := fun outer H s E e s' => ∃ a C B t H', e = .ref a ∧ s'.os = s.os ∧ AllBare s'.gens ∧ Un (frs outer) [] H H' s.heap s'.heap ∧ HOk P w H' s'.heap ∧
  Heap.FlyingW B outer a (.ref C) (.ref t) s'.heap ∧ (∀ b u, H' b = some u → ∃ o, B.get? b = some o) ∧ (∀ b o, s.heap.get? b = some o → b ∉ frs outer → ∃ o, B.get? b = some o) ∧ E (.ref C) none H'
theorem XF.xp {E : Addr → Hp → Prop} {e : Value} {s' : Shared} : XF X E e s' → XP X E e s' := fun ⟨pins, σ, H, a, C, B, t, he, I, fl, c, q⟩ => ⟨pins, σ, H, a, C, he, .inr ⟨B, t, I, fl, c⟩, q⟩
theorem passF {E : XK} {E' : Addr → Hp → Prop} {R : Value → Shared → Prop} (h : ∀ C H, E (.ref C) none H → E' C H) (hR : ∀ e s', XF X E' e s' → R e s') : Passes (CX1 X.prog X.w) (X.wish R) E := by
  rintro pins σ H s e s' I ⟨a, C, B, t, H', he, os, bare, un, hok, fl, trk, old, q⟩
  have I0 := I.unwish
  have I' : Inv X pins σ H' s' := I0.call' (ch := []) os un hok bare (fun b z => absurd z (by simp))
  refine hR _ _ ⟨pins, σ, H', a, C, B, t, he, I', fl, ⟨trk, fun b o e hb hx => ?_, fun p hp => ?_⟩, h C H' q⟩
  · obtain ⟨o', e'⟩ := I0.base.there b o e hx
    exact old b o' e' hb
  · obtain ⟨e, n, ne, nf, _⟩ := I0.pin p hp
    exact old p.1 p.2 e fun z => (List.mem_cons.mp (I0.stkSub p.1 z)).elim ne nf
theorem cov_made (I : Inv X pins σ H s) : Cov X pins H (PySem.W.hideAll s.heap (frs X.stack)) where
  trk := fun b u e => by
    obtain ⟨o, q⟩ := (I.hok b u e).obj
    refine ⟨o, PySem.W.hideAll_get _ q fun z => ?_⟩
    rw [I.stkFree b z] at e; cases e
  old := fun b o e hb hx => by
    obtain ⟨o', e'⟩ := I.base.there b o e hx
    exact ⟨o', PySem.W.hideAll_get _ e' hb⟩
  pin := fun p hp => by
    obtain ⟨e, n, ne, nf, _⟩ := I.pin p hp
    exact ⟨_, PySem.W.hideAll_get _ e fun z => (List.mem_cons.mp (I.stkSub p.1 z)).elim ne nf⟩
end
theorem leave1 {P : Program} {w : World} {K : PySem.W.Frag} {mg : Str → Option Value} {base : Heap} {N : List Str} {qual : Str} {scope : Scope} {f : Addr} {cd : Value} {A : Around} {outer : List Env} {s : Shared} {H : Hp} {E : XK} {e : Value} {s' : Shared}
    (h : XP (cxOf (CX1 P w) P w K mg base N qual scope f cd A outer s H E) (fun C H' => E (.ref C) none H') e s') : (cxOf (CX1 P w) P w K mg base N qual scope f cd A outer s H E).xe e s' := by
  obtain ⟨pins, σ, H', a, C, rfl, hx, q⟩ := h
  have fin : ∀ {s1 : Shared} {B : Heap} {h' : Heap} {t : Addr}, Inv (cxOf (CX1 P w) P w K mg base N qual scope f cd A outer s H E) pins σ H' s1 → B.StaysIn s1.heap → s1.heap.UpToSlots h' →
      Cov (cxOf (CX1 P w) P w K mg base N qual scope f cd A outer s H E) pins H' B → Heap.FlyingW B outer a (.ref C) (.ref t) h' → CX1 P w outer H s E (.ref a) { s1 with heap := h' } := by
    intro s1 B h' t I b1 sm c fl
    have J := I.flown (h' := h') b1 fl.1 sm c s1.toks
    refine ⟨a, C, B, t, H', rfl, J.os, J.bare, J.base, J.hok, fl, c.trk, fun b o e hb => c.old b o e (fun z => ?_) (fun z => absurd (show b ∈ ([] : List Addr) from z) (by simp)), q⟩
    rcases List.mem_cons.mp (I.stkSub b z) with y | y
    · exact absurd y (Nat.ne_of_lt (Nat.lt_of_lt_of_le (Heap.lt_size e) I.ok.above))
    · exact hb y
  rcases hx with ⟨s1, h1, vs, I, mk, rfl⟩ | ⟨B, t, I, fl, c⟩
  · have hin : ∀ env ∈ (envOfC qual scope s.heap.objs.size f cd :: outer), ∀ b, env.frame = some b → b ∈ frs (envOfC qual scope s.heap.objs.size f cd :: outer) := fun env he b hb => List.mem_filterMap.mpr ⟨env, he, hb⟩
    refine wpAny_leaves_madeW (base := PySem.W.hideAll s1.heap (frs (envOfC qual scope s.heap.objs.size f cd :: outer))) (I.ok.frames) rfl (fun b o q => PySem.W.of_hideAll _ q) (PySem.W.funFrames_hide I.stack hin) mk fun h' t x1 x2 x3 x4 => ?_
    exact fin (s1 := s1) (h' := h') (t := t) I (fun b o q => PySem.W.of_hideAll _ q) ((Heap.UpToSlots.of_keeps mk.keeps).trans x4) (cov_made I) x1
  · exact wpAny_leaves_onW I.ok.frames rfl fl fun h' x1 x2 => fin I fl.1 x2 c x1
end L2
set_option Elab.async false
set_option linter.all false
set_option maxRecDepth 100000
namespace L2
open PySem PySem.Spec PyProof.Rows
section
variable {X : Cx} {E : Addr → Hp → Prop} {x : Str} {C : Addr} {bm : List Value} {B newId initId : String} {np cpos pos : Pos} {e₀ : Expr} {rest : List Expr} {ta : TA}
noncomputable def tRaise (C : Addr) (E : Addr → Hp → Prop) (ta : TA) : TS := fun _ σ H => ta σ H fun vs H1 => vs.length ≤ sizeLine ∧ E C H1
theorem ps_raise (O : OwnCls x C bm newId X.mg X.base) (FB : ExcBaseFacts B newId initId bm) (hc : X.calm = true) (hg : Gl X x) (ha : PA (X.wish (XP X E)) (e₀ :: rest) ta) (hdb : (x == ("__debug__" : Str)) = false := by decide)
    (he : starEach (e₀ :: rest) X.env = (false, eval e₀ X.env) :: starEach rest X.env := by rfl) (hpl : (backTo cpos (starEach rest X.env)).any (·.1) = false := by rfl) :
    PS (X.wish (XP X E)) (.Raise (some (.Call (.Name x np) (e₀ :: rest) [] cpos)) none pos) (tRaise C E ta) := by
  intro pins s σ H D I h
  obtain ⟨tl, N, nm, q, bs, hdct, sn, sub, ab, col, dd, k0, k1, k2, k3, k5, mN, hC, hN, hni, T⟩ := O.obj
  have hp2 : (backTo cpos (starEach (e₀ :: rest) X.env)).any (·.1) = false := by
    rw [he]; show (false || (backTo cpos (starEach rest X.env)).any (·.1)) = false; rw [hpl]; rfl
  refine wpAny_Raise_call_subT (C := C) (nm := nm) (q := q) (N := N) (bs := bs) (bm := tl) (hdct := hdct) (sn := sn) (sub := sub) (ab := ab) (col := col) (dd := dd) (k0 := k0) (k1 := k1) (k2 := k2) (k3 := k3) (k5 := k5) (mN := mN)
    FB (T.hasType FB.hasBase) (I.ok.hd hc) hp2 hni (ld_glob I hg O.bound ⟨rfl, ?_⟩ hdb)
  have h2 := ha cpos pins s σ H _ I h
  have he' : starEach (e₀ :: rest) (X.wish (XP X E)).env = (false, eval e₀ X.env) :: starEach rest X.env := he
  rw [he'] at h2 ⊢
  exact Calls.evalArgs_plain (wpAny_mono h2 (fun us s2 ⟨vs, H1, I1, r, q1⟩ => ⟨rfl, by rw [← r.length]; exact q1.1, I1.bk _ _ hC, hN.keeps I1.bk, T.keeps I1.bk, fun h' e mk => ⟨pins, σ, H1, e, C, rfl, .inl ⟨s2, h', us, I1.unwish, mk, rfl⟩, q1.2⟩⟩) fun _ _ z => z)
end
section
variable {P : Program} {w : World} {K : PySem.W.Frag} {mg : Str → Option Value} {base : Heap}
end
noncomputable def excAt (a C : Addr) : HO := .ext fun h => ∃ o, XIns h a C o
section
variable {X : Cx} {pins : List (Addr × Obj)} {σ : St} {H : Hp} {s : Shared}
theorem Inv.exc {B : Heap} {a C t : Addr} (I : Inv X pins σ H s) (fl : Heap.FlyingW B X.stack a (.ref C) (.ref t) s.heap) (c : Cov X pins H B) : Inv X pins σ (upd H a (excAt a C)) s := by
  obtain ⟨oe, vs, hoe, hcl, hdt, _⟩ := fl.first
  have hB := fl.2.1
  have hn : H a = none := by
    cases e : H a with
    | none => rfl
    | some u => obtain ⟨o, q⟩ := c.trk a u e; rw [hB] at q; cases q
  have nfr : a ∉ frs X.stack := fun z => by
    obtain ⟨_, o, ho, nf⟩ := I.stack.mem z
    rw [hoe] at ho; cases ho; exact nf vs hdt
  have nold : ∀ b o, X.s₀.heap.get? b = some o → b ∉ X.ex → b ≠ a := fun b o e hx z => by
    subst z
    obtain ⟨o', q⟩ := c.old _ o e nfr hx
    rw [hB] at q; cases q
  have keepH : ∀ b u, H b = some u → upd H a (excAt a C) b = some u := fun b u e => by rw [upd_ne (ne_of_none e hn)]; exact e
  refine ⟨I.ok, I.os, I.bare, ⟨I.base.keep, I.base.slot, fun b o e n hx => ?_, I.base.there, fun b xs e => keepH b _ (I.base.tups b xs e), fun b o u e => keepH b _ (I.base.frzs b o u e), fun b ps e => ?_⟩, I.loc, I.cell, ?_, fun x c' e => ?_, fun p hp => ?_, fun b u e => ?_, I.len⟩
  · rw [upd_ne (nold b o e hx)]; exact I.base.free b o e n hx
  · obtain ⟨m, q⟩ := I.base.tbls b ps e
    exact ⟨m, keepH b _ q⟩
  · rw [upd_ne]
    · exact I.free
    · intro z
      obtain ⟨m, ⟨o, es, ep, ho, hd, _⟩, _⟩ := I.loc
      rw [z, hoe] at ho; cases ho; rw [hdt] at hd; cases hd
  · rw [upd_ne]
    · exact I.freeC x c' e
    · intro z
      obtain ⟨v, o, ho, hd⟩ := I.cell x c' e
      rw [z, hoe] at ho; cases ho; rw [hdt] at hd; cases hd
  · obtain ⟨e, n, ne, nf, d⟩ := I.pin p hp
    refine ⟨e, ?_, ne, nf, d⟩
    rw [upd_ne]
    · exact n
    · intro z
      obtain ⟨o, q⟩ := c.pin p hp
      rw [z, hB] at q; cases q
  · by_cases hb : b = a
    · subst hb
      rw [upd_same] at e; cases e
      exact ⟨⟨oe, hoe, hcl⟩, ⟨oe, hoe⟩, fun h1 h2 ⟨o, ho, hc⟩ k => ⟨o, k o ho, hc⟩⟩
    · rw [upd_ne hb] at e
      exact (I.hok b u e).stay (fun _ _ _ q => q) (fun b' q => keepH b' _ q) fun b' xs q => keepH b' _ q
theorem Inv.goes {M : Model} {A : Around} {E : Value → Shared → Prop} {j : Nat} {n : Str} {pos : Pos} {Q : Unit → Shared → Prop} (I : Inv X pins σ H s) (hN : X.N.Nodup) (hj : X.N[j]? = some n) (hl : X.env.kindOf n = some .local)
    (h : ∀ s', Inv X pins (σ.set j none) H s' → Q () s') : wpAny M A (do bindName X.env n .none; unbindBehindTheSuite X.env n pos) Q E s := by
  obtain ⟨m, hn, hlo⟩ := id I.loc
  have hcls : (X.env.scope.kind == .class || (X.env.scope.kind == .module && X.env.locals != X.env.globals)) = false := by rw [I.ok.kind]; rfl
  obtain ⟨oL, _, _, hoL, _⟩ := id hn
  refine wpAny_nameGoes_keeps hl hn hcls fun h' v hn' hs => ?_
  have old : ∀ b o, X.s₀.heap.get? b = some o → b ≠ X.env.locals := fun b o e => Nat.ne_of_lt (Nat.lt_of_lt_of_le (Heap.lt_size e) I.ok.above)
  refine h _ ⟨I.ok, I.os, I.bare, ⟨fun b o e n hb hx => (hs.2 b (old b o e)).trans (I.base.keep b o e n hb hx), fun b o e n hb hx => ?_, I.base.free, fun b o e hx => ?_, I.base.tups, I.base.frzs, I.base.tbls⟩, ⟨_, hn', fun i y v' e1 e2 e3 => ?_⟩, fun y c e => ?_, I.free, I.freeC, fun p hp => ?_, fun b u e => ?_, by simpa using I.len⟩
  · obtain ⟨sl, e1⟩ := I.base.slot b o e n hb hx
    exact ⟨sl, (hs.2 b (old b o e)).trans e1⟩
  · obtain ⟨o', e1⟩ := I.base.there b o e hx
    exact ⟨o', (hs.2 b (old b o e)).trans e1⟩
  · by_cases hi : i = j
    · subst hi
      by_cases hlt : i < σ.length
      · rw [List.getElem?_set_self hlt] at e2; cases e2
      · rw [List.getElem?_eq_none (by simpa using hlt)] at e2; cases e2
    · rw [List.getElem?_set_ne (Ne.symm hi)] at e2
      obtain ⟨u', r', q⟩ := hlo i y v' e1 e2 e3
      refine ⟨u', r', ?_⟩
      rcases q with ⟨k, e⟩ | ⟨k, c, e, z⟩
      · refine .inl ⟨k, ?_⟩
        have : y ≠ n := fun e => hi (nodup_ix hN e1 (e ▸ hj))
        simp [this, e]
      · exact .inr ⟨k, c, e, z.sameBut hs (I.cne y c e)⟩
  · obtain ⟨w', z⟩ := I.cell y c e
    exact ⟨w', z.sameBut hs (I.cne y c e)⟩
  · obtain ⟨e, n, ne, nf, d⟩ := I.pin p hp
    exact ⟨(hs.2 p.1 ne).trans e, n, ne, nf, d⟩
  · refine (I.hok b u e).stay (fun c w' hc q => (hs.2 c ?_).trans q) (fun _ q => q) fun _ _ q => q
    rintro rfl
    rcases hc with z | z
    · rw [← z, I.free] at e; cases e
    · rw [I.free] at z; cases z
noncomputable abbrev Cx.sui (X : Cx) (a : Addr) : Cx := { X with A := X.A.mark (some (.ref a)), calm := false, xe := fun _ _ => False }
theorem Inv.marked (I : Inv X pins σ H s) (a : Addr) : Inv (X.sui a) pins σ H s :=
  ⟨⟨I.ok.mod, I.ok.kind, I.ok.glob, I.ok.blt, I.ok.above, I.ok.inj, I.ok.has, I.ok.cab, (fun z => by cases z), I.ok.frames, I.ok.stk, I.ok.exf, I.ok.bs, I.ok.bsz, I.ok.noex, I.ok.exfs, I.ok.funs, I.ok.frf⟩, I.os, I.bare, I.base, I.loc, I.cell, I.free, I.freeC, I.pin, I.hok, I.len⟩
theorem Inv.unmark (hh : X.calm = true → X.A.handled = none) {a : Addr} (I : Inv (X.sui a) pins σ H s) : Inv X pins σ H s :=
  ⟨⟨I.ok.mod, I.ok.kind, I.ok.glob, I.ok.blt, I.ok.above, I.ok.inj, I.ok.has, I.ok.cab, hh, I.ok.frames, I.ok.stk, I.ok.exf, I.ok.bs, I.ok.bsz, I.ok.noex, I.ok.exfs, I.ok.funs, I.ok.frf⟩, I.os, I.bare, I.base, I.loc, I.cell, I.free, I.freeC, I.pin, I.hok, I.len⟩
noncomputable abbrev Cx.pin (X : Cx) (q : List (Addr × Obj)) : Cx := { X with pn := q }
theorem Inv.pinq (I : Inv X pins σ H s) : Inv (X.pin (X.pn ++ pins)) [] σ H s :=
  ⟨⟨I.ok.mod, I.ok.kind, I.ok.glob, I.ok.blt, I.ok.above, I.ok.inj, I.ok.has, I.ok.cab, I.ok.hd, I.ok.frames, I.ok.stk, I.ok.exf, I.ok.bs, I.ok.bsz, I.ok.noex, I.ok.exfs, I.ok.funs, I.ok.frf⟩, I.os, I.bare, I.base, I.loc, I.cell, I.free, I.freeC, fun p hp => I.pin p (by simpa using hp), I.hok, I.len⟩
theorem Inv.unpin {pins' : List (Addr × Obj)} (I : Inv (X.pin (X.pn ++ pins)) pins' σ H s) : Inv X pins σ H s :=
  ⟨⟨I.ok.mod, I.ok.kind, I.ok.glob, I.ok.blt, I.ok.above, I.ok.inj, I.ok.has, I.ok.cab, I.ok.hd, I.ok.frames, I.ok.stk, I.ok.exf, I.ok.bs, I.ok.bsz, I.ok.noex, I.ok.exfs, I.ok.funs, I.ok.frf⟩, I.os, I.bare, I.base, I.loc, I.cell, I.free, I.freeC, fun p hp => I.pin p (List.mem_append_left _ hp), I.hok, I.len⟩
end
noncomputable def tTry (K : PySem.W.Frag) (M : Addr) (i L : Nat) (tb : (Addr → Hp → Prop) → TS) : TS := fun D σ H => ∃ E : Addr → Hp → Prop, tb E { nx := fun _ _ => False, rt := fun _ _ => False } σ H ∧
  ∀ C H' a σ', E C H' → H' a = none → σ'.length = L → σ'[i]? = some (some (.ref a)) → PySem.W.subIn K (.ref C) (.ref M) = some true ∧ D.nx σ' (upd H' a (excAt a C))
section
variable {X : Cx} {body : List Stmt} {x n c : Str} {M : Addr} {i j : Nat} {np cp vp ap hp pos : Pos} {tb : (Addr → Hp → Prop) → TS}
theorem ps_tryas (hb : ∀ q E, PSs ((X.pin q).wish (XF (X.pin q) E)) body (tb E)) (hxe : X.xe = fun _ _ => False) (hstk : X.stack = X.env :: X.outer) (hfr : X.env.frame = some X.env.locals) (hm : X.mg x = some (.ref M)) (hg : Gl X x)
    (hbe : PySem.W.subIn X.K (.ref M) (.type "BaseException") = some true) (his : (PySem.W.clsIn X.K M).isSome = true) (hty : PySem.W.typeIn X.K (.ref M) = some (.type "type")) (hN : X.N.Nodup) (hij : i ≠ j) (hj : X.N[j]? = some n) (hjl : X.env.scope.names.lookup n = some .local)
    (hi : X.N[i]? = some c) (hil : X.env.scope.names.lookup c = some .local) (hdb : (x == ("__debug__" : Str)) = false := by decide) (hd1 : (n == ("__debug__" : Str)) = false := by decide) (hd2 : (n == ("__classdict__" : Str)) = false := by decide)
    (hs : swapsWith (.Name n vp) (some (.Name c cp)) ap.line X.env = pure false := by rfl) :
    PS X (.Try body [.ExceptHandler (some (.Name x np)) (some n) [.Assign [.Name c cp] (.Name n vp) ap] hp] [] [] pos) (tTry X.K M i X.N.length tb) := by
  rintro pins s σ H D I ⟨E, h1, h2⟩
  refine wpAny_Try_except (wpAny_mono (hb (X.pn ++ pins) E [] s σ H _ ((I.pinq).wish _) h1) (fun f s1 q => ?_) (fun e s1 q => ?_))
  · cases f with
    | next => obtain ⟨_, _, _, q⟩ := q; exact q.elim
    | brk => obtain ⟨_, _, _, q⟩ := q; exact q.elim
    | cont => obtain ⟨_, _, _, q⟩ := q; exact q.elim
    | ret u => obtain ⟨_, _, _, _, _, q⟩ := q; exact q.elim
  · obtain ⟨pins', σ', H', a, C, B, t, rfl, J, fl, cv, q⟩ := q
    have hf : X.A.frames = some (X.env :: X.outer) := by rw [← hstk]; exact I.ok.frames
    have fl' : Heap.FlyingW B (X.env :: X.outer) a (.ref C) (.ref t) s1.heap := by rw [← hstk]; exact fl
    have hn : H' a = none := by
      cases e : H' a with
      | none => rfl
      | some u => obtain ⟨o, z⟩ := cv.trk a u e; rw [fl.2.1] at z; cases z
    refine wpAny_looks_onW hf hfr fl' fun h4 hl4 sm4 => wpAny_landsW hl4 fun h5 fl5 sm5 => ?_
    have J5 := J.flown (h' := h5) fl.1 fl5.1 (sm4.trans sm5) cv s1.toks
    obtain ⟨oe, vs, hoe, hcl, hdt, _⟩ := fl5.first
    have hw : ∀ σ'', σ''.length = X.N.length → σ''[i]? = some (some (.ref a)) → PySem.W.subIn X.K (.ref C) (.ref M) = some true ∧ D.nx σ'' (upd H' a (excAt a C)) := fun σ'' e1 e2 => h2 C H' a σ'' q hn e1 e2
    have hls : σ'.length = X.N.length := J.len
    have hit : i < X.N.length := (List.getElem?_eq_some_iff.mp hi).1
    have hsub : PySem.W.subIn X.K (.ref C) (.ref M) = some true := (hw (σ'.set i (some (.ref a))) (by simpa using hls) (by rw [List.getElem?_set_self (by omega)])).1
    refine wpAny_handleBy_cons (codeAny_handlers_test (Calls.Name_function_global J.ok.kind hg (Calls.loadGlobal_global (by rw [J.ok.glob]; exact J5.mod.glob.keeps J5.bk) hm ?_) hdb)) (by intro q; cases q)
    refine xc_match J5.kIn ⟨hoe, hcl⟩ hsub hbe his hty (codeAny_handlers_suite_as ?_)
    refine lands_againW fl5 fun h6 fl6 sm6 => ?_
    have J6 := J5.flown (h' := h6) fl5.1 fl6.1 sm6 cv s1.toks
    have J7 := J6.exc (by rw [show (X.pin (X.pn ++ pins)).stack = X.env :: X.outer from hstk]; exact fl6) cv
    refine store_ok (X := X.pin (X.pn ++ pins)) J7 hN hj (.inl hjl) (v := .ref a) rfl (fun s8 J8 => ?_) (.inr hjl)
    have ps : PSs ((X.pin (X.pn ++ pins)).sui a) [.Assign [.Name c cp] (.Name n vp) ap] (tAsg (tVar j) (gName i)) := pss_one (ps_set hN hi (.inl hil) (pe_var hj (.inl hjl) hd1 hd2) hs (.inr hil))
    refine wpAny_mono (ps pins' s8 _ _ { nx := fun σ9 H9 => σ9 = (σ'.set j (some (.ref a))).set i (some (.ref a)) ∧ H9 = upd H' a (excAt a C), rt := fun _ _ => False } (J8.marked a) ⟨.ref a, by rw [List.getElem?_set_self (by rw [J.len]; exact (List.getElem?_eq_some_iff.mp hj).1)], rfl, rfl⟩) (fun f s9 q => ?_) (fun _ _ z => z.elim)
    cases f with
    | brk => obtain ⟨_, _, _, q⟩ := q; exact q.elim
    | cont => obtain ⟨_, _, _, q⟩ := q; exact q.elim
    | ret u => obtain ⟨_, _, _, _, _, q⟩ := q; exact q.elim
    | next =>
      obtain ⟨σ9, H9, J9, rfl, rfl⟩ := q
      refine Inv.goes (X := X.pin (X.pn ++ pins)) (J9.unmark I.ok.hd) hN hj hjl fun s10 J10 => ⟨_, _, J10.unpin, (hw _ ?_ ?_).2⟩
      · simpa using hls
      · rw [List.getElem?_set_ne (Ne.symm hij), List.getElem?_set_self (by simp only [List.length_set]; omega)]
end
end L2
namespace Fm
@[simp] noncomputable def sRaise (c : String) : SF := fun σ h => .exc (.exn c []) σ h
@[simp] noncomputable def sIfX (t : TF) (a b : SF) : SF := fun σ h => match t σ h with | .ok c h' => if c then a σ h' else b σ h' | _ => .bad
noncomputable def sRef (i : Nat) (b : SF) (n : String) : SF := fun σ h => match b (σ.set i (some .non)) h with
  | .exc (.exn c _) _ h' => if c = n then .rt (.bl true) h' else .bad
  | _ => .bad
end Fm
set_option Elab.async false
set_option linter.all false
set_option maxRecDepth 100000
namespace Fm
open PySem PySem.Spec L2 PyProof.Rows
section
variable (K : PySem.W.Frag) (mg : Str → Option Value)
noncomputable def PostX (ρ : List Addr) (H : Hp) (o : Out) (E : Addr → Hp → Prop) (En : Ends) : Prop := match o with
  | .exc x _ hd => ∃ c l C, x = .exn c l ∧ mg (Str.ofString c) = some (.ref C) ∧ ∀ H' ρ', Ext ρ H ρ' H' → RH K ρ' H' hd → E C H'
  | .nx σ hd => PostS K ρ H (.nx σ hd) En
  | .rt d hd => PostS K ρ H (.rt d hd) En
  | .bk σ hd => PostS K ρ H (.bk σ hd) En
  | .ct σ hd => PostS K ρ H (.ct σ hd) En
  | .bad => False
noncomputable def liftX (E : Addr → Hp → Prop) (f : SF) : TS := fun En σ H => ∃ ρ σd hd, RS K ρ H σd hd σ ∧ PostX K mg ρ H (f σd hd) E En
noncomputable def spX (F : Fn) (np : Nat) : Sp := fun vs H _ E => ∃ ρ hd ds, RH K ρ H hd ∧ RDs K ρ H ds vs ∧ ds.length = np ∧
  ∃ c l hd' C, F ds hd = .exc (.exn c l) hd' ∧ mg (Str.ofString c) = some (.ref C) ∧ ∀ H' ρ', Ext ρ H ρ' H' → RH K ρ' H' hd' → E (.ref C) none H'
end
section
variable {K : PySem.W.Frag} {mg : Str → Option Value} {ρ ρ' : List Addr} {H H' : Hp} {E : Addr → Hp → Prop} {En : Ends}
theorem PostX.ext {o : Out} (e : Ext ρ H ρ' H') (p : PostX K mg ρ H o E En) : PostX K mg ρ' H' o E En := by
  cases o with
  | exc x σ hd => obtain ⟨c, l, C, h1, h2, h3⟩ := p; exact ⟨c, l, C, h1, h2, fun H2 ρ2 e2 r => h3 H2 ρ2 (e.trans e2) r⟩
  | nx σ hd => exact PostS.ext (o := .nx σ hd) e p
  | rt d hd => exact PostS.ext (o := .rt d hd) e p
  | bk σ hd => exact PostS.ext (o := .bk σ hd) e p
  | ct σ hd => exact PostS.ext (o := .ct σ hd) e p
  | bad => exact p
theorem Ext.sm {H2 : Hp} (e : Ext ρ H ρ' H') (s : Same H' H2) : Ext ρ H ρ' H2 := ⟨e.pre, e.new, fun q u h n => s q u (e.frame q u h n)⟩
end
noncomputable abbrev Wi := (Addr → Hp → Prop) → Value → Shared → Prop
noncomputable def MX (X : Cx) (R : Wi) (s : Stmt) (f : SF) : Prop := ∀ E, PS (X.wish (R E)) s (liftX X.K X.mg E f)
noncomputable def MXs (X : Cx) (R : Wi) (s : List Stmt) (f : SF) : Prop := ∀ E, PSs (X.wish (R E)) s (liftX X.K X.mg E f)
structure DefX (P : Program) (w : World) (K : PySem.W.Frag) (mg : Str → Option Value) (base : Heap) (x : Str) (k np : Nat) (F : Fn) : Prop where
  ex : ∃ f fd ps, mg x = some (.ref f) ∧ PySem.W.keepIn K (.ref f) = true ∧ Binds K fd ps [] ∧ FnOk P w K mg base (CX1 P w) k f fd ps (spX K mg F np)
section
variable {X : Cx} {R : Wi} {pos p : Pos}
theorem mx_raise {n : String} {C : Addr} {bm : List Value} {B newId initId : String} {np cpos cp : Pos} {txt : Str} {j} (O : OwnCls (Str.ofString n) C bm newId X.mg X.base) (FB : ExcBaseFacts B newId initId bm) (hc : X.calm = true) (hg : Gl X (Str.ofString n))
    (hdb : (Str.ofString n == ("__debug__" : Str)) = false := by decide) : MX X (XP X) (.Raise (some (.Call (.Name (Str.ofString n) np) [.Constant (.str txt) j cp] [] cpos)) none pos) (sRaise n) := fun E => by
  refine PS.imp (ps_raise O FB hc hg (pa_cons pe_str pa_nil) hdb) fun En σ H zq99 => ?_
  obtain ⟨ρ, σd, hd, rs, q⟩ := zq99
  refine ?_
  obtain ⟨c, l, C', h1, h2, h3⟩ := q
  cases h1
  rw [O.bound] at h2; cases h2
  exact ⟨by show 1 ≤ sizeLine; decide, h3 H ρ Ext.refl rs.hp⟩
end
section
variable {P : Program} {w : World} {K : PySem.W.Frag} {mg : Str → Option Value} {base : Heap}
end
end Fm
set_option Elab.async false
set_option linter.all false
set_option maxRecDepth 100000
namespace Fm
open PySem PySem.Spec L2 PyProof.Rows
noncomputable def vval : V → Value | .ref a => .ref a | .ty n => .type n | _ => .none
noncomputable def isCls : V → Bool | .ref _ => true | .ty _ => true | _ => false
theorem vval_of {v : V} {u : Value} (h : isCls v = true) (r : RelV v u) : u = vval v := by
  cases v <;> first | exact r | cases h
theorem vvals_of : ∀ {vs : List V} {us : List Value}, vs.all isCls = true → Vals vs us → us = vs.map vval
  | [], _, _, .nil => rfl
  | v :: vs, _, h, .cons r t => by
    rw [List.all_cons, Bool.and_eq_true] at h
    rw [List.map_cons, ← vval_of h.1 r, ← vvals_of h.2 t]
section
variable {X : Cx} {pos p : Pos}
noncomputable def rEx1 (K : PySem.W.Frag) : List V → Hp → VK → Prop := fun xs H Q => ∃ a C v b, xs = [.ref a, v] ∧ isCls v = true ∧ H a = some (excAt a C) ∧ XCls K C ∧ PySem.W.kitOne K (.ref C) (vval v) = some b ∧ Q (.bl b) H
theorem call_ex1 : CallR X (.builtin "isinstance") (rEx1 X.K) := by
  rintro pins s σ H xs us Q I r ⟨a, C, v, b, rfl, hc, ha, Z, e, q⟩
  obtain ⟨u, u2, rfl, ru, ru2⟩ := Vals.two r
  cases (show u = Value.ref a from ru)
  rw [vval_of hc ru2]
  have p0 := (I.hok a _ ha).1
  exact PySem.W.kia_one (xc_kit Z) I.kIn p0 e (by intro z; cases z) fun tk => ⟨.bl b, H, I.tok tk, rfl, q⟩
noncomputable def rExT (K : PySem.W.Frag) : List V → Hp → VK → Prop := fun xs H Q => ∃ a C tp vs b, xs = [.ref a, .ref tp] ∧ vs.all isCls = true ∧ H a = some (excAt a C) ∧ H tp = some (.tup vs) ∧ XCls K C ∧ PySem.W.kitAny K (.ref C) (vs.map vval) = some b ∧ Q (.bl b) H
theorem call_exT : CallR X (.builtin "isinstance") (rExT X.K) := by
  rintro pins s σ H xs us Q I r ⟨a, C, tp, vs, b, rfl, hc, ha, ht, Z, e, q⟩
  obtain ⟨u, u2, rfl, ru, ru2⟩ := Vals.two r
  cases (show u = Value.ref a from ru)
  cases (show u2 = Value.ref tp from ru2)
  have p0 := (I.hok a _ ha).1
  obtain ⟨_, its, rv, o, ho, hcl, n, hd⟩ := I.hok tp _ ht
  have hit := vvals_of hc rv
  subst hit
  obtain ⟨cl, dd, dt, sl⟩ := o
  cases hcl
  cases hd
  exact PySem.W.kia_tup (xc_kit Z) I.kIn p0 ho e (by intro z; cases z) fun tk => ⟨.bl b, H, I.tok tk, rfl, q⟩
theorem pa_cls {x : Str} {np : Pos} {a : Addr} {es : List Expr} {vs : List V} (hg : Gl X x) (hm : X.mg x = some (.ref a)) (h : PA X es fun _ H Q => Q vs H) (hd : (x == ("__debug__" : Str)) = false := by decide)
    (hs : starEach (.Name x np :: es) X.env = (false, eval (.Name x np) X.env) :: starEach es X.env := by rfl) : PA X (.Name x np :: es) fun _ H Q => Q (.ref a :: vs) H := pa_cons (pe_glob (v := .ref a) hg hm rfl hd) h hs
theorem pa_cls0 : PA X [] fun _ H Q => Q [] H := pa_nil
theorem mss_ref {i j : Nat} {c n x : Str} {M C : Addr} {tb tail : List Stmt} {bt : SF} {nm : String} {c0 p0 a0 np cp vp ap hp : Pos} {k0} (hxe : X.xe = fun _ _ => False) (hb : ∀ q, MXs (X.pin q) (XF (X.pin q)) tb bt) (hstk : X.stack = X.env :: X.outer)
    (hfr : X.env.frame = some X.env.locals) (hm : X.mg x = some (.ref M)) (hg : Gl X x) (hbe : PySem.W.subIn X.K (.ref M) (.type "BaseException") = some true) (his : (PySem.W.clsIn X.K M).isSome = true)
    (hty : PySem.W.typeIn X.K (.ref M) = some (.type "type")) (hN : X.N.Nodup) (hij : i ≠ j) (hj : X.N[j]? = some n) (hjl : X.env.scope.names.lookup n = some .local) (hi : X.N[i]? = some c) (hil : X.env.scope.names.lookup c = some .local)
    (hC : X.mg (Str.ofString nm) = some (.ref C)) (hsub : PySem.W.subIn X.K (.ref C) (.ref M) = some true)
    (tl : ∃ tt, PSs X tail tt ∧ ∀ σ H a D, H a = some (excAt a C) → σ[i]? = some (some (.ref a)) → σ.length = X.N.length → (∀ H', Same H H' → D.rt (.bl true) H') → tt D σ H)
    (hdb : (x == ("__debug__" : Str)) = false := by decide) (hd1 : (n == ("__debug__" : Str)) = false := by decide) (hd2 : (n == ("__classdict__" : Str)) = false := by decide)
    (hs0 : swapsWith (.Constant .none k0 p0) (some (.Name c c0)) a0.line X.env = pure false := by rfl) (hs : swapsWith (.Name n vp) (some (.Name c cp)) ap.line X.env = pure false := by rfl) :
    MSs X (.Assign [.Name c c0] (.Constant .none k0 p0) a0 :: .Try tb [.ExceptHandler (some (.Name x np)) (some n) [.Assign [.Name c cp] (.Name n vp) ap] hp] [] [] pos :: tail) (sRef i bt nm) := by
  obtain ⟨tt, h3, q3⟩ := tl
  refine PSs.imp (pss_cons (ps_set (i := i) hN hi (.inl hil) pe_non hs0 (.inr hil)) (pss_cons (ps_tryas (tb := fun E => liftX X.K X.mg E bt) (fun q E => hb q E) hxe hstk hfr hm hg hbe his hty hN hij hj hjl hi hil hdb hd1 hd2 hs) h3)) fun En σ H zq100 => ?_
  obtain ⟨ρ, σd, hd, rs, pp⟩ := zq100
  refine ?_
  unfold sRef at pp
  cases e : bt (σd.set i (some .non)) hd with
  | nx _ _ => rw [e] at pp; exact pp.elim
  | rt _ _ => rw [e] at pp; exact pp.elim
  | bk _ _ => rw [e] at pp; exact pp.elim
  | ct _ _ => rw [e] at pp; exact pp.elim
  | bad => rw [e] at pp; exact pp.elim
  | exc y σ1 h1 =>
    rw [e] at pp
    cases y with
    | exn cn l =>
      simp only at pp
      split at pp
      · rename_i hcn
        subst hcn
        refine ⟨fun C' H' => C' = C ∧ ∃ ρ', Ext ρ H ρ' H' ∧ RH X.K ρ' H' h1, ⟨ρ, _, hd, ⟨rs.hp, rs.st.set (d := .non) (v := .non) i (by simp only [RD])⟩, by rw [e]; exact ⟨cn, l, C, rfl, hC, fun H' ρ' ex r => ⟨rfl, ρ', ex, r⟩⟩⟩, ?_⟩
        rintro C' H' a σ' ⟨rfl, ρ', ex, r⟩ hn hl hi'
        refine ⟨hsub, q3 σ' _ a _ upd_same hi' hl fun H2 sm => ?_⟩
        exact pp (.bl true) H2 ρ' ((ex.sm (same_upd hn)).sm sm) ((r.same (same_upd hn)).same sm) (by simp only [RD])
      · exact pp.elim
    | _ => exact pp.elim
theorem tail_and {i o : Nat} {c ov A : Str} {C CA : Addr} {ns : List Expr} {vs : List V} {x1 x2 x3 x4 x5 x6 x7 x8 x9 y1 y2 y3 y4 y5 y6 y7 y8 : Pos} {kt} (hN : X.N.Nodup) (hi : X.N[i]? = some c) (hil : X.env.scope.names.lookup c = some .local) (ho : X.N[o]? = some ov)
    (hol : X.env.scope.names.lookup ov = some .local) (hio : i ≠ o) (hgi : Gl X "isinstance") (hmi : X.mg "isinstance" = none) (hgv : Gl X "ValueError") (hmv : X.mg "ValueError" = none) (hgA : Gl X A) (hmA : X.mg A = some (.ref CA))
    (hns : PA X ns fun _ H Q => Q vs H) (hvs : vs.all isCls = true) (Z : XCls X.K C) (k8 : PySem.W.kitAny X.K (.ref C) (vs.map vval) = some false) (kA : PySem.W.kitOne X.K (.ref C) (.ref CA) = some true) (kV : PySem.W.kitOne X.K (.ref C) (.type "ValueError") = some true)
    (hlen : vs.length ≤ sizeLine) (hdc : (c == ("__debug__" : Str)) = false) (hdc2 : (c == ("__classdict__" : Str)) = false) (hdo : (ov == ("__debug__" : Str)) = false) (hdo2 : (ov == ("__classdict__" : Str)) = false) (hdA : (A == ("__debug__" : Str)) = false)
    (e1 : starEach [.Name c x1, .Tuple ns kt x2] X.env = (false, eval (.Name c x1) X.env) :: starEach [.Tuple ns kt x2] X.env := by rfl) (e2 : starEach [.Tuple ns kt x2] X.env = (false, eval (.Tuple ns kt x2) X.env) :: starEach [] X.env := by rfl)
    (e3 : ∀ z z', starEach [.Name c z, .Name A z'] X.env = (false, eval (.Name c z) X.env) :: starEach [.Name A z'] X.env := by intro _ _; rfl) (e4 : ∀ z', starEach [.Name A z'] X.env = (false, eval (.Name A z') X.env) :: starEach [] X.env := by intro _; rfl)
    (e5 : ∀ z z', starEach [.Name c z, .Name "ValueError" z'] X.env = (false, eval (.Name c z) X.env) :: starEach [.Name "ValueError" z'] X.env := by intro _ _; rfl)
    (hs : swapsWith (.Call (.Name "isinstance" x3) [.Name c x1, .Tuple ns kt x2] [] x4) (some (.Name ov x5)) x6.line X.env = pure false := by rfl) :
    ∃ tt, PSs X [.Assign [.Name ov x5] (.Call (.Name "isinstance" x3) [.Name c x1, .Tuple ns kt x2] [] x4) x6,
      .Return (some (.BoolOp .And [.Call (.Name "isinstance" x7) [.Name c x8, .Name A x9] [] y1, .Call (.Name "isinstance" y2) [.Name c y3, .Name "ValueError" y4] [] y5, .UnaryOp .Not (.Name ov y6) y7] y8)) pos] tt ∧
      ∀ σ H a D, H a = some (excAt a C) → σ[i]? = some (some (.ref a)) → σ.length = X.N.length → (∀ H', Same H H' → D.rt (.bl true) H') → tt D σ H := by
  have hv : ∀ {z : Pos}, PE X (.Name c z) (tVar i) := fun {z} => pe_var hi (.inl hil) hdc hdc2
  have hov : ∀ {z : Pos}, PE X (.Name ov z) (tVar o) := fun {z} => pe_var ho (.inl hol) hdo hdo2
  refine ⟨_, pss_cons (ps_set (i := o) hN ho (.inl hol) (pe_callB call_exT hgi hmi (by decide +kernel) (pa_cons hv (pa_cons (pe_tup hns) pa_nil e2) e1) (he := e1)) hs (.inr hol))
    (pss_one (ps_ret (pe_and (pe_callB call_ex1 hgi hmi (by decide +kernel) (pa_cons hv (pa_cons (pe_glob (v := .ref CA) hgA hmA rfl hdA) pa_nil (e4 _)) (e3 _ _)) (he := e3 _ _))
      (pe_and (pe_callB call_ex1 hgi hmi (by decide +kernel) (pa_cons hv (pa_cons (pe_bltn (v := .ty "ValueError") (u := .type "ValueError") hgv hmv (by decide +kernel) rfl) pa_nil) (e5 _ _)) (he := e5 _ _)) (pe_one (pe_not hov)))))), ?_⟩
  intro σ H a D ha hsi hl hD
  have hlo : o < σ.length := by rw [hl]; exact (List.getElem?_eq_some_iff.mp ho).1
  refine ⟨.ref a, hsi, ?_⟩
  refine ⟨hlen, fun tp hn => ?_⟩
  have ha2 : upd H tp (.tup vs) a = some (excAt a C) := by rw [upd_ne (ne_of_none ha hn)]; exact ha
  refine ⟨a, C, tp, vs, false, rfl, hvs, ha2, upd_same, Z, k8, ?_⟩
  have hs2 : (σ.set o (some (.bl false)))[i]? = some (some (.ref a)) := by rw [List.getElem?_set_ne (Ne.symm hio)]; exact hsi
  refine ⟨.ref a, hs2, a, C, .ref CA, true, rfl, rfl, ha2, Z, kA, true, rfl, ?_⟩
  rw [if_pos rfl]
  refine ⟨.ref a, hs2, a, C, .ty "ValueError", true, rfl, rfl, ha2, Z, kV, true, rfl, ?_⟩
  rw [if_pos rfl]
  refine ⟨.bl false, by rw [List.getElem?_set_self hlo], false, rfl, hD _ (same_upd hn)⟩
end
end Fm
set_option Elab.async false
set_option linter.all false
set_option maxRecDepth 100000
namespace Fm
open PySem PySem.Spec L2 PyProof.Rows
noncomputable abbrev bmVE : List Value := [.type "ValueError", .type "Exception", .type "BaseException", .type "object"]
theorem own_in {K : PySem.W.Frag} {h : Heap} {mg : Str → Option Value} {x : Str} {C : Addr} {bm : List Value} {id : String} (X : K.In h) (e : mg x = some (.ref C)) (q : PySem.W.excIn K C bm id = true) : OwnCls x C bm id mg h := by
  refine ⟨e, ?_⟩
  unfold PySem.W.excIn at q; split at q
  · rename_i dd cd sl ho; split at q
    · rename_i C' bm' k0 k1 k2 k3 n k5 hm hs
      simp only [Bool.and_eq_true, beq_iff_eq, Bool.not_eq_true'] at q; obtain ⟨⟨⟨⟨⟨rfl, rfl⟩, hdel⟩, ht⟩, hok⟩, hni⟩ := q
      obtain ⟨nm, bs, mro, ns, qn, hd, sn, sub, ab, col, del⟩ := cd
      dsimp only at hm hdel hok hni; subst hm hdel
      have hsl : sl = #[k0, k1, k2, k3, some (.builtin n), k5] := by obtain ⟨l⟩ := sl; simp only at hs; rw [hs]
      subst hsl
      exact ⟨bm', ns, nm, qn, bs, hd, sn, sub, ab, col, dd, k0, k1, k2, k3, k5, _, X _ _ ho, .of_isNs (PySem.W.isNs_of_in X hok), PySem.W.nsMap_none_of_in X hok hni, PySem.W.tail_of_in X ht⟩
    · cases q
  · cases q
end Fm
namespace Fm
@[simp] noncomputable def sForX (it : IF) (tg : GF) (b : SF) : SF := fun σ h => match it σ h with
  | .ok (l, g) h => forL g l tg b l σ h
  | _ => .bad
noncomputable def noX {α : Type} : Res α → Res α
  | .exc _ _ => .bad
  | r => r
noncomputable def fPl {α : Type} (f : Sd → Hd → Res α) : Sd → Hd → Res α := fun σ h => noX (f σ h)
noncomputable def sPl (f : SF) : SF := fun σ h => match f σ h with | .exc _ _ _ => .bad | o => o
end Fm
set_option Elab.async false
set_option linter.all false
set_option maxRecDepth 100000
namespace L2
open PySem PySem.Spec PyProof.Rows
theorem passG {X : Cx} {E : XK} {E' : Addr → Hp → Prop} (h : ∀ C H, E (.ref C) none H → E' C H) (hR : ∀ e s', XF X E' e s' → X.xe e s') : Passes (CX1 X.prog X.w) X E := by
  intro pins σ H s e s' I q
  have := passF (X := X) (R := X.xe) h hR pins σ H s e s' (I.wish _) q
  exact this
end L2
namespace Fm
open PySem PySem.Spec L2 PyProof.Rows
section
variable (K : PySem.W.Frag) (mg : Str → Option Value)
noncomputable def XC (ρ : List Addr) (H : Hp) (E : Addr → Hp → Prop) (x : D) (hd : Hd) : Prop := ∃ c l C, x = .exn c l ∧ mg (Str.ofString c) = some (.ref C) ∧ ∀ H' ρ', Ext ρ H ρ' H' → RH K ρ' H' hd → E C H'
noncomputable def PostN {α β : Type} (R : VR α β) (ρ : List Addr) (H : Hp) (σd : Sd) (σ : L2.St) (r : Res α) (E : Addr → Hp → Prop) (Q : β → Hp → Prop) : Prop := match r with
  | .ok a hd' => ∀ b H' ρ', Ext ρ H ρ' H' → RS K ρ' H' σd hd' σ → R ρ' H' a b → Q b H'
  | .exc x hd' => XC K mg ρ H E x hd'
  | .bad => False
noncomputable def liftN {α β : Type} (R : VR α β) (E : Addr → Hp → Prop) (f : Sd → Hd → Res α) : L2.St → Hp → (β → Hp → Prop) → Prop := fun σ H Q => ∃ ρ σd hd, RS K ρ H σd hd σ ∧ PostN K mg R ρ H σd σ (f σd hd) E Q
noncomputable def spY (F : Fn) (np : Nat) : Sp := fun vs H Q E => ∃ ρ hd ds, RH K ρ H hd ∧ RDs K ρ H ds vs ∧ ds.length = np ∧ match F ds hd with
  | .ok d hd' => ∀ v H' ρ', Ext ρ H ρ' H' → RH K ρ' H' hd' → RD K ρ' H' d v → Q v H'
  | .exc x hd' => XC K mg ρ H (fun C H' => E (.ref C) none H') x hd'
  | .bad => False
end
section
variable {K : PySem.W.Frag} {mg : Str → Option Value} {ρ ρ' : List Addr} {H H' : Hp} {E : Addr → Hp → Prop} {σd : Sd} {σ : L2.St} {hd : Hd} {α β α' β' : Type} {R : VR α β} {R' : VR α' β'}
theorem XC.ext {x : D} (e : Ext ρ H ρ' H') (p : XC K mg ρ H E x hd) : XC K mg ρ' H' E x hd := by
  obtain ⟨c, l, C, h1, h2, h3⟩ := p
  exact ⟨c, l, C, h1, h2, fun H2 ρ2 e2 r => h3 H2 ρ2 (e.trans e2) r⟩
theorem PostN.ext {r : Res α} {Q : β → Hp → Prop} (e : Ext ρ H ρ' H') (h : PostN K mg R ρ H σd σ r E Q) : PostN K mg R ρ' H' σd σ r E Q := by
  cases r with
  | ok a h' => exact fun b H2 ρ2 e2 s q => h b H2 ρ2 (e.trans e2) s q
  | exc x h' => exact XC.ext e h
  | bad => exact h
theorem PostN.imp {r : Res α} {Q Q' : β → Hp → Prop} (h : PostN K mg R ρ H σd σ r E Q) (i : ∀ b H', Q b H' → Q' b H') : PostN K mg R ρ H σd σ r E Q' := by
  cases r with
  | ok a h' => exact fun b H' ρ' e s q => i b H' (h b H' ρ' e s q)
  | exc x h' => exact h
  | bad => exact h
theorem PostN.bind {r : Res α} {k : α → Hd → Res α'} {Q : β' → Hp → Prop} (h : PostN K mg R' ρ H σd σ (r.bind k) E Q) :
    PostN K mg R ρ H σd σ r E (fun b H' => ∃ ρ' a hd', Ext ρ H ρ' H' ∧ RS K ρ' H' σd hd' σ ∧ R ρ' H' a b ∧ PostN K mg R' ρ' H' σd σ (k a hd') E Q) := by
  cases r with
  | ok a h' => exact fun b H' ρ' e s q => ⟨ρ', a, h', e, s, q, PostN.ext e h⟩
  | exc x h' => exact h
  | bad => exact h
theorem PostX.outE {r : Res D} {k : D → Hd → Out} {En : Ends} (p : PostX K mg ρ H (outE r σd k) E En) :
    PostN K mg (rD K) ρ H σd σ r E (fun v H' => ∃ ρ' d hd', Ext ρ H ρ' H' ∧ RS K ρ' H' σd hd' σ ∧ RD K ρ' H' d v ∧ PostX K mg ρ' H' (k d hd') E En) := by
  cases r with
  | ok d h' => exact fun b H' ρ' ex rs q => ⟨ρ', d, h', ex, rs, q, PostX.ext ex p⟩
  | exc x h' => exact p
  | bad => exact p
theorem PostN.of_pl {r : Res α} {Q : β → Hp → Prop} (p : PostN K mg R ρ H σd σ (noX r) E Q) : Post K R ρ H σd σ r Q := by
  cases r with
  | ok a h' => exact p
  | exc x h' => exact p
  | bad => exact p
end
noncomputable def NE (X : Cx) (E : Addr → Hp → Prop) (e : Expr) (f : EF) : Prop := PE X e (liftN X.K X.mg (rD X.K) E f)
noncomputable def NA (X : Cx) (E : Addr → Hp → Prop) (es : List Expr) (f : LF) : Prop := PA X es (liftN X.K X.mg (rDs X.K) E f)
noncomputable def NS (X : Cx) (E : Addr → Hp → Prop) (s : Stmt) (f : SF) : Prop := PS X s (liftX X.K X.mg E f)
noncomputable def NSs (X : Cx) (E : Addr → Hp → Prop) (s : List Stmt) (f : SF) : Prop := PSs X s (liftX X.K X.mg E f)
structure DefY (P : Program) (w : World) (K : PySem.W.Frag) (mg : Str → Option Value) (base : Heap) (x : Str) (k np : Nat) (F : Fn) : Prop where
  ex : ∃ f fd ps, mg x = some (.ref f) ∧ PySem.W.keepIn K (.ref f) = true ∧ Binds K fd ps [] ∧ FnOk P w K mg base (CX1 P w) k f fd ps (spY K mg F np)
section
variable {X : Cx} {E : Addr → Hp → Prop} {pos p : Pos}
theorem na_of {es : List Expr} {f : LF} (h : MA X es f) : NA X E es (fPl f) := PA.imp h fun σ H Q ⟨ρ, σd, hd, rs, q⟩ => ⟨ρ, σd, hd, rs, q.of_pl⟩
theorem ne_call {x : Str} {k np : Nat} {F : Fn} {e : Expr} {es : List Expr} {r : LF} (hd : DefY X.prog X.w X.K X.mg X.base x k np F) (hr : Room k X.A) (hg : Gl X x) (ha : NA X E (e :: es) r) (hR : ∀ v s', XF X E v s' → X.xe v s')
    (hnp : ∀ ds h, F ds h ≠ .bad → ds.length = np) (hdb : (x == ("__debug__" : Str)) = false := by decide) (he : starEach (e :: es) X.env = (false, eval e X.env) :: starEach es X.env := by rfl) (hpl : (backTo pos (starEach es X.env)).any (·.1) = false := by rfl) :
    NE X E (.Call (.Name x p) (e :: es) [] pos) (fCall F r) := by
  obtain ⟨f, fd, ps, h1, h2, h3, h4⟩ := hd.ex
  refine PE.imp (pe_call (E := fun v _ H => ∃ C, v = .ref C ∧ E C H) h4 hr hg h1 h2 h3 .nil (passG (E' := E) (fun C H ⟨C', e, q⟩ => by cases e; exact q) hR) ha hdb he hpl) fun σ H Q zq101 => ?_
  obtain ⟨ρ, σd, hd, rs, pp⟩ := zq101
  refine ⟨ρ, σd, hd, rs, ?_⟩
  refine (PostN.bind (R := rDs X.K) pp).imp fun vs H1 zq102 => ?_
  obtain ⟨ρ1, ds, hd1, e1, rs1, rv, p1⟩ := zq102
  refine ?_
  rw [List.append_nil]
  refine ⟨ρ1, hd1, ds, rs1.hp, rv, ?_, ?_⟩
  · refine hnp ds hd1 fun z => ?_
    rw [z] at p1; exact p1
  · cases c : F ds hd1 with
    | bad => rw [c] at p1; exact p1
    | exc z h' =>
      rw [c] at p1
      obtain ⟨cn, l, C, q1, q2, q3⟩ := p1
      exact ⟨cn, l, C, q1, q2, fun H2 ρ2 e2 r2 => ⟨C, rfl, q3 H2 ρ2 e2 r2⟩⟩
    | ok d hd2 =>
      rw [c] at p1
      exact fun v H' ρ' ex rh rd => p1 v H' ρ' ex (rs1.ext ex rh) rd
theorem mkFn_ne {np n : Nat} {b : SF} : ∀ ds h, mkFn np n b ds h ≠ .bad → ds.length = np := by
  intro ds h e
  unfold mkFn at e
  split at e
  · assumption
  · exact absurd rfl e
theorem ns_of {s : Stmt} {f : SF} (h : MS X s f) : NS X E s (sPl f) := PS.imp h fun En σ H ⟨ρ, σd, hd, rs, q⟩ => ⟨ρ, σd, hd, rs, by
  unfold sPl at q
  cases e : f σd hd <;> rw [e] at q <;> exact q⟩
theorem nss_nil : NSs X E [] sNil := PSs.imp pss_nil fun En σ H ⟨ρ, σd, hd, rs, p⟩ => p σ H ρ Ext.refl rs
theorem nss_one {st : Stmt} {a : SF} (h : NS X E st a) : NSs X E [st] a := pss_one h
theorem nss_cons {st : Stmt} {rest : List Stmt} {a b : SF} (h1 : NS X E st a) (h2 : NSs X E rest b) : NSs X E (st :: rest) (sSeq a b) := by
  refine PSs.imp (pss_cons h1 h2) fun En σ H zq103 => ?_
  obtain ⟨ρ, σd, hd, rs, q⟩ := zq103
  refine ⟨ρ, σd, hd, rs, ?_⟩
  unfold sSeq at q
  cases e : a σd hd with
  | nx σ1 h1 => rw [e] at q; exact fun σ' H' ρ' ex rs' => ⟨ρ', σ1, h1, rs', PostX.ext ex q⟩
  | rt d h1 => rw [e] at q; exact q
  | bk σ1 h1 => rw [e] at q; exact q
  | ct σ1 h1 => rw [e] at q; exact q
  | exc x σ1 h1 => rw [e] at q; exact q
  | bad => rw [e] at q; exact q
theorem ns_if {c : Expr} {a b : List Stmt} {t : TF} {fa fb : SF} (hc : MT X c t) (ha : NSs X E a fa) (hb : NSs X E b fb) : NS X E (.If c a b pos) (sIfX t fa fb) := by
  refine PS.imp (ps_if hc ha hb) fun En σ H zq104 => ?_
  obtain ⟨ρ, σd, hd, rs, q⟩ := zq104
  refine ⟨ρ, σd, hd, rs, ?_⟩
  unfold sIfX at q
  cases e : t σd hd with
  | exc x h' => rw [e] at q; exact q
  | bad => rw [e] at q; exact q
  | ok c h' =>
    rw [e] at q
    intro b H' ρ' ex rs' hb
    cases hb
    cases c with
    | true => rw [if_pos rfl]; exact ⟨ρ', σd, h', rs', PostX.ext ex q⟩
    | false => rw [if_neg Bool.false_ne_true]; exact ⟨ρ', σd, h', rs', PostX.ext ex q⟩
theorem ns_expr {e : Expr} {f : EF} (h : NE X E e f) (hs : swapsWith e none pos.line X.env = pure false := by rfl) : NS X E (.Expr e pos) (sExp f) := by
  refine PS.imp (ps_expr h hs) fun En σ H zq105 => ?_
  obtain ⟨ρ, σd, hd, rs, p⟩ := zq105
  refine ⟨ρ, σd, hd, rs, ?_⟩
  refine (PostX.outE p).imp fun v H1 zq106 => ?_
  obtain ⟨ρ1, d, hd1, e1, rs1, rv, p1⟩ := zq106
  refine ?_
  exact p1 σ H1 ρ1 Ext.refl rs1
end
end Fm
set_option Elab.async false
set_option linter.all false
set_option maxRecDepth 100000
namespace L2
open PySem PySem.Spec PyProof.Rows
section
variable {X : Cx} {E : Addr → Hp → Prop} {e : Value} {s' : Shared} {R : Value → Shared → Prop}
theorem Cov.unwish {pins : List (Addr × Obj)} {H : Hp} {B : Heap} (c : Cov (X.wish R) pins H B) : Cov X pins H B := ⟨c.trk, c.old, c.pin⟩
theorem XF.unwish (h : XF (X.wish R) E e s') : XF X E e s' := by
  obtain ⟨pins, σ, H, a, C, B, t, he, I, fl, c, q⟩ := h
  exact ⟨pins, σ, H, a, C, B, t, he, I.unwish, fl, c.unwish, q⟩
theorem PS.xe {st : Stmt} {t : TS} (hx : ∀ e s', R e s' → X.xe e s') (h : PS (X.wish R) st t) : PS X st t := fun pins s σ H D I hw =>
  wpAny_mono (h pins s σ H D (I.wish _) hw) (fun _ _ q => q.unwish) hx
end
end L2
namespace Fm
open PySem PySem.Spec L2 PyProof.Rows
section
variable {X : Cx} {E : Addr → Hp → Prop} {pos p : Pos}
theorem ns_for {tg : Expr} {iter : Expr} {body : List Stmt} {f : IF} {g : GF} {b : SF} (hp : PassesOwn (model X.prog X.w) X.A X.env X.xe) (hc : X.calm = true) (hi : MI X tg iter f) (hg : MG X tg g) (hb : NSs X E body b)
    (hs : ∀ x, foldedSetIterable iter X.env x = pure x := by intro _; rfl) : NS X E (.For tg iter body [] pos) (sForX f g b) := by
  refine PS.imp (ps_for hp hc hi hg hb hs) fun En σ H zq107 => ?_
  obtain ⟨ρ, σd, hd, rs, p⟩ := zq107
  refine ⟨ρ, σd, hd, rs, ?_⟩
  unfold sForX at p
  cases e : f σd hd with
  | exc x h' => rw [e] at p; exact p
  | bad => rw [e] at p; exact p
  | ok q hd1 =>
    rw [e] at p
    obtain ⟨l, gd⟩ := q
    intro J H1 ρ1 ex1 rs1 wk
    simp only at p wk
    refine ⟨fun i m σ' H' => ∃ ρ' σd' hd', Ext ρ1 H1 ρ' H' ∧ RS X.K ρ' H' σd' hd' σ' ∧ i ≤ l.length ∧ m = l.length - i ∧ PostX X.K X.mg ρ' H' (forL gd l g b (l.drop i) σd' hd') E En,
      ⟨l.length, ρ1, σd, hd1, Ext.refl, rs1, Nat.zero_le _, by simp, by simpa using PostX.ext ex1 p⟩, ?_⟩
    rintro i m σ' H' ⟨ρ', σd', hd', ex, rs', hil, rfl, pp⟩
    by_cases hlt : i < l.length
    · have hdi : l[i]? = some l[i] := by simp [hlt]
      rw [List.drop_eq_getElem_cons hlt] at pp
      unfold forL at pp
      by_cases hh : held gd l hd'
      · rw [if_pos hh] at pp
        obtain ⟨go, yl⟩ := wk.go ρ' H' hd' i _ ex rs'.hp hh hdi
        refine .inr ⟨go, fun σ2 H2 => ∃ ρ2 σd2 hd2, Ext ρ1 H1 ρ2 H2 ∧ RS X.K ρ2 H2 σd2 hd2 σ2 ∧ PostX X.K X.mg ρ2 H2 (forL gd l g b (l.drop (i + 1)) σd2 hd2) E En,
          fun σ2 H2 ⟨ρ2, σd2, hd2, a1, a2, a3⟩ => ⟨l.length - (i + 1), by omega, ρ2, σd2, hd2, a1, a2, hlt, rfl, a3⟩, fun x H2 y => ?_⟩
        obtain ⟨sm, rx⟩ := yl x H2 y
        cases c : g l[i] σd' with
        | none => rw [c] at pp; exact pp.elim
        | some σd2 =>
          rw [c] at pp
          simp only at pp
          refine ⟨ρ', σd', hd', l[i], σd2, rs'.same sm, rx, c, fun σ2 rs2 => ⟨ρ', σd2, hd', rs2, ?_⟩⟩
          have e12 : Ext ρ' H' ρ' H2 := Ext.same sm
          cases c2 : b σd2 hd' with
          | nx σ3 h3 => rw [c2] at pp; exact fun σ4 H4 ρ4 ex4 rs4 => ⟨ρ4, σ3, h3, ex.trans (e12.trans ex4), rs4, PostX.ext (e12.trans ex4) pp⟩
          | ct σ3 h3 => rw [c2] at pp; exact fun σ4 H4 ρ4 ex4 rs4 => ⟨ρ4, σ3, h3, ex.trans (e12.trans ex4), rs4, PostX.ext (e12.trans ex4) pp⟩
          | bk σ3 h3 => rw [c2] at pp; exact fun σ4 H4 ρ4 ex4 rs4 => pp σ4 H4 ρ4 (e12.trans ex4) rs4
          | rt d h3 => rw [c2] at pp; exact fun v H4 ρ4 ex4 rs4 rv => pp v H4 ρ4 (e12.trans ex4) rs4 rv
          | exc x σ3 h3 => rw [c2] at pp; exact PostX.ext (o := .exc x σ3 h3) e12 pp
          | bad => rw [c2] at pp; exact pp
      · rw [if_neg hh] at pp; exact pp.elim
    · have e0 : i = l.length := by omega
      subst e0
      rw [List.drop_length] at pp
      unfold forL at pp
      by_cases hh : held gd l hd'
      · rw [if_pos hh] at pp
        exact .inl ⟨wk.stop ρ' H' hd' ex rs'.hp hh, pp σ' H' ρ' Ext.refl rs'⟩
      · rw [if_neg hh] at pp; exact pp.elim
theorem ns_raise {n : String} {C : Addr} {bm : List Value} {B newId initId : String} {np cpos cp : Pos} {txt : Str} {j} (O : OwnCls (Str.ofString n) C bm newId X.mg X.base) (FB : ExcBaseFacts B newId initId bm) (hc : X.calm = true) (hg : Gl X (Str.ofString n)) (hx : ∀ e s', XP X E e s' → X.xe e s')
    (hdb : (Str.ofString n == ("__debug__" : Str)) = false := by decide) : NS X E (.Raise (some (.Call (.Name (Str.ofString n) np) [.Constant (.str txt) j cp] [] cpos)) none pos) (sRaise n) := PS.xe hx (mx_raise O FB hc hg hdb E)
end
section
variable {P : Program} {w : World} {K : PySem.W.Frag} {mg : Str → Option Value} {base : Heap}
noncomputable def PostY (K : PySem.W.Frag) (mg : Str → Option Value) (ρ : List Addr) (H : Hp) (r : Res D) (E : XK) (Q : VK) : Prop := match r with
  | .ok d hd' => ∀ v H' ρ', Ext ρ H ρ' H' → RH K ρ' H' hd' → RD K ρ' H' d v → Q v H'
  | .exc x hd' => XC K mg ρ H (fun C H' => E (.ref C) none H') x hd'
  | .bad => False
theorem PostY.letGo {ρ : List Addr} {H : Hp} {hd : Hd} {r : Res D} {E : XK} {Q : VK} (rh : RH K ρ H hd) (p : PostY K mg ρ H (letGo hd r) E Q) : PostY K mg ρ H r E Q := by
  cases r with
  | exc x h' => exact p
  | bad => exact p
  | ok d h' =>
    have q : PostR K ρ H (Fm.letGo hd (.ok d h')) Q := by
      simp only [Fm.letGo] at p ⊢
      split at p <;> rename_i c
      · rw [if_pos c]; exact p
      · rw [if_neg c]; exact p
    exact PostR.letGo rh q
theorem fny_mk {x : Str} {st : Stmt} {f : Addr} {fd : FuncData} {N ps : List Str} {k : Nat} {b : SF} (F : Fun K x x st f fd) (S : FnScope N ps (defScope st))
    (body : ∀ (cdv : Value) (A : Around) (outer : List Env) (s : Shared) (H : Hp) (E : XK), Room k (A.deeper (envOfC x (defScope st) s.heap.objs.size f cdv)) →
      NSs (cxOf (CX1 P w) P w K mg base N x (defScope st) f cdv A outer s H E) (fun C H' => E (.ref C) none H') (defBody st) b) :
    FnOk P w K mg base (CX1 P w) (k + 1) f fd ps (spY K mg (mkFn ps.length N.length b) ps.length) := by
  obtain ⟨oc, od, kV, doc, pm, an, cdv, ct, osl, rfl, lk, hcd⟩ := F.ex
  refine fn_of lk hcd S (fun vs H Q E ⟨ρ, hd, ds, rh, rd, hl, p⟩ => by rw [← rd.length]; exact hl) fun A outer s H vs Q E hr zq108 => ?_
  obtain ⟨ρ, hd, ds, rh, rd, hl, p⟩ := zq108
  refine ⟨_, body cdv A outer s H E hr, ρ, _, hd, ⟨rh, rst_start rd⟩, ?_⟩
  have p0 : PostY K mg ρ H (mkFn ps.length N.length b ds hd) E Q := p
  unfold mkFn at p0
  rw [if_pos hl] at p0
  have p1 := PostY.letGo rh p0
  unfold runB at p1
  cases e2 : b (ds.map some ++ List.replicate (N.length - ds.length) none) hd with
  | nx σ1 h1 => rw [e2] at p1; exact fun σ' H' ρ' ex rs' => p1 .non H' ρ' ex rs'.hp (by simp only [RD])
  | rt d h1 => rw [e2] at p1; exact p1
  | bk _ _ => rw [e2] at p1; exact p1.elim
  | ct _ _ => rw [e2] at p1; exact p1.elim
  | bad => rw [e2] at p1; exact p1.elim
  | exc y σ1 h1 => rw [e2] at p1; exact p1
theorem DefY.mk' {x : Str} {f : Addr} {fd : FuncData} {ps : List Str} {k np : Nat} {F : Fn} (hm : mg x = some (.ref f)) (hk : PySem.W.keepIn K (.ref f) = true) (hb : Binds K fd ps []) (h : FnOk P w K mg base (CX1 P w) k f fd ps (spY K mg F np)) : DefY P w K mg base x k np F := ⟨f, fd, ps, hm, hk, hb, h⟩
end
end Fm
set_option Elab.async false
set_option linter.all false
set_option maxRecDepth 100000
namespace Fm
open PySem PySem.Spec L2 PyProof.Rows
section
variable {X : Cx} {pos p : Pos}
end
end Fm
set_option Elab.async false
set_option linter.all false
set_option maxRecDepth 100000
namespace Fm
open PySem PySem.Spec L2 PyProof.Rows
section
variable {X : Cx} {pos p : Pos}
end
end Fm
namespace Fm
theorem letGo_len {h h' : Hd} {d : D} (e : h'.length ≤ h.length) : letGo h (.ok d h') = .ok d h' := by
  simp only [letGo]; split
  · rw [List.take_of_length_le e]
  · rfl
@[simp] theorem letGo_self {h : Hd} {d : D} : letGo h (.ok d h) = .ok d h := letGo_len (Nat.le_refl _)
@[simp] theorem letGo_set {h : Hd} {d : D} {n : Nat} {c : Cell} : letGo h (.ok d (h.set n c)) = .ok d (h.set n c) := letGo_len (by simp)
theorem letGo_ref {h h' : Hd} {d : D} (e : pure? d = false) : letGo h (.ok d h') = .ok d h' := by
  simp [letGo, e]
@[simp] theorem letGo_ref' {h h' : Hd} {n : Nat} : letGo h (.ok (.ref n) h') = .ok (.ref n) h' := letGo_ref rfl
theorem letGo_pure {h g : Hd} {d : D} (e : pure? d = true) : letGo h (.ok d (h ++ g)) = .ok d h := by
  have : oldOk h (h ++ g) := fun n c hn hc => .inl (by rwa [List.getElem?_append_left hn] at hc)
  simp [letGo, e, this]
theorem letGo_old {h h' g : Hd} {d : D} (e : pure? d = true) (hl : h'.length = h.length) (ho : oldOk h (h' ++ g)) : letGo h (.ok d (h' ++ g)) = .ok d h' := by
  simp [letGo, e, ho, ← hl]
structure Web where
  ties : List (List (Nat × Int))
  bars : List Int
  stays : List (Option Int)
noncomputable def encO : Option Int → D
  | none => .non
  | some i => .int i
noncomputable def encP (p : Nat × Int) : D := .tup [.int p.1, .int p.2]
noncomputable def encR (r : List (Nat × Int)) : D := .tup (r.map encP)
noncomputable def encI (l : List Int) : D := .tup (l.map .int)
noncomputable def Web.enc (w : Web) : D := .tup [.tup (w.ties.map encR), .tup (w.bars.map .int), .tup (w.stays.map encO)]
structure Web.Ok (w : Web) (n : Nat) : Prop where
  t : w.ties.length = n
  b : w.bars.length = n
  s : w.stays.length = n
  lt : ∀ r ∈ w.ties, ∀ p ∈ r, p.1 < n
  sz : n ≤ 1000
structure Fits (w : Web) (n : Nat) (s : List Int) : Prop where
  len : s.length = n
  op : ∀ x ∈ s, x = 0 ∨ x = 1
  st : ∀ (i : Nat) (x : Int), w.stays[i]? = some (some x) → s[i]? = some x
theorem atI_nat {l : List D} {i : Nat} {d : D} (e : l[i]? = some d) : atI l (i : Int) = some d := by
  have := (List.getElem?_eq_some_iff.mp e).1
  simp [atI, ixN, this]
  simpa [List.getElem?_eq_getElem this] using e
theorem compL_pure {g : Option Nat} {all : List D} {tg : GF} {cs : List TF} {e : EF} {h : Hd} (I : Sd → Prop) (p : D → Bool) (f : D → D) (hh : held g all h) :
    ∀ {xs : List D} {σ : Sd}, (∀ x ∈ xs, ∀ σ, I σ → ∃ σ', tg x σ = some σ' ∧ I σ' ∧ tests cs σ' h = .ok (p x) h ∧ (p x = true → e σ' h = .ok (f x) h)) → I σ →
      compL g all tg cs e xs σ h = .ok ((xs.filter p).map f) h
  | [], _, _, _ => by simp [compL, hh]
  | x :: xs, σ, st, i => by
    obtain ⟨σ', h1, h2, h3, h4⟩ := st x (by simp) σ i
    have ih := compL_pure I p f hh (xs := xs) (σ := σ') (fun y hy => st y (by simp [hy])) h2
    cases hp : p x with
    | true => simp [compL, hh, h1, h3, hp, h4 hp, ih]
    | false => simp [compL, hh, h1, h3, hp, ih]
theorem forL_more {g : Option Nat} {all : List D} {tg : GF} {b : SF} {rest : List D} (P : Nat → Sd → Hd → Prop) (hh : ∀ i σ h, P i σ h → held g all h) :
    ∀ {xs : List D} {k : Nat} {σ : Sd} {h : Hd}, (∀ (i : Nat) x σ h, xs[i]? = some x → P (k + i) σ h → ∃ σ', tg x σ = some σ' ∧ ∃ σ'' h'', b σ' h = .nx σ'' h'' ∧ P (k + i + 1) σ'' h'') → P k σ h →
      ∃ σ' h', forL g all tg b (xs ++ rest) σ h = forL g all tg b rest σ' h' ∧ P (k + xs.length) σ' h'
  | [], k, σ, h, _, p => ⟨σ, h, rfl, by simpa using p⟩
  | x :: xs, k, σ, h, st, p => by
    obtain ⟨σ', h1, σ2, h2, h3, h4⟩ := st 0 x σ h (by simp) (by simpa using p)
    have st' : ∀ (i : Nat) y σ h, xs[i]? = some y → P (k + 1 + i) σ h → ∃ σ', tg y σ = some σ' ∧ ∃ σ'' h'', b σ' h = .nx σ'' h'' ∧ P (k + 1 + i + 1) σ'' h'' := fun i y σ h e q => by
      have e1 : k + 1 + i = k + (i + 1) := by omega
      rw [e1] at q ⊢
      exact st (i + 1) y σ h (by simpa using e) q
    obtain ⟨σ3, h5, h6, h7⟩ := forL_more P hh st' (by simpa using h4)
    refine ⟨σ3, h5, ?_, ?_⟩
    · rw [← h6, List.cons_append, forL, if_pos (hh _ _ _ p), h1]
      simp only [h3]
    · have e1 : k + (x :: xs).length = k + 1 + xs.length := by simp; omega
      rw [e1]; exact h7
theorem forL_next {g : Option Nat} {all : List D} {tg : GF} {b : SF} (P : Nat → Sd → Hd → Prop) (hh : ∀ i σ h, P i σ h → held g all h)
    {xs : List D} {k : Nat} {σ : Sd} {h : Hd} (st : ∀ (i : Nat) x σ h, xs[i]? = some x → P (k + i) σ h → ∃ σ', tg x σ = some σ' ∧ ∃ σ'' h'', b σ' h = .nx σ'' h'' ∧ P (k + i + 1) σ'' h'') (p : P k σ h) :
      ∃ σ' h', forL g all tg b xs σ h = .nx σ' h' ∧ P (k + xs.length) σ' h' := by
  obtain ⟨σ', h', q, z⟩ := forL_more (rest := []) P hh st p
  rw [List.append_nil] at q
  exact ⟨σ', h', q.trans (by unfold forL; exact if_pos (hh _ _ _ z)), z⟩
theorem compL_next {g : Option Nat} {all : List D} {tg : GF} {e : EF} (P : Nat → Sd → Hd → Prop) (V : Nat → D → Prop) (hh : ∀ i σ h, P i σ h → held g all h) :
    ∀ {xs : List D} {k : Nat} {σ : Sd} {h : Hd}, (∀ (i : Nat) x σ h, xs[i]? = some x → P (k + i) σ h → ∃ σ', tg x σ = some σ' ∧ ∃ d h'', e σ' h = .ok d h'' ∧ V (k + i) d ∧ P (k + i + 1) σ' h'') → P k σ h →
      ∃ ds h', compL g all tg [] e xs σ h = .ok ds h' ∧ ds.length = xs.length ∧ (∀ (i : Nat) d, ds[i]? = some d → V (k + i) d) ∧ ∃ σ', P (k + xs.length) σ' h'
  | [], k, σ, h, _, p => ⟨[], h, by simp [compL, hh _ _ _ p], rfl, by simp, σ, by simpa using p⟩
  | x :: xs, k, σ, h, st, p => by
    obtain ⟨σ', h1, d, h2, h3, hv, h4⟩ := st 0 x σ h (by simp) (by simpa using p)
    have st' : ∀ (i : Nat) y σ h, xs[i]? = some y → P (k + 1 + i) σ h → ∃ σ', tg y σ = some σ' ∧ ∃ d h'', e σ' h = .ok d h'' ∧ V (k + 1 + i) d ∧ P (k + 1 + i + 1) σ' h'' := fun i y σ h e q => by
      have e1 : k + 1 + i = k + (i + 1) := by omega
      rw [e1] at q ⊢
      exact st (i + 1) y σ h (by simpa using e) q
    obtain ⟨ds, h5, h6, hl, hvs, σ3, h7⟩ := compL_next P V hh st' (by simpa using h4)
    refine ⟨d :: ds, h5, ?_, by simp [hl], fun i d' hd => ?_, σ3, ?_⟩
    · simp [compL, hh _ _ _ p, h1, tests, h3, h6]
    · cases i with
      | zero => simp at hd; subst hd; simpa using hv
      | succ i =>
        have := hvs i d' (by simpa using hd)
        rwa [show k + 1 + i = k + (i + 1) by omega] at this
    · have e1 : k + (x :: xs).length = k + 1 + xs.length := by simp; omega
      rw [e1]; exact h7
theorem list_of_at {α : Type} {n : Nat} {ds : List α} {f : Nat → α} (hl : ds.length = n) (h : ∀ (i : Nat) d, ds[i]? = some d → d = f i) : ds = (List.range n).map f := by
  apply List.ext_getElem?
  intro i
  by_cases hi : i < n
  · have : ds[i]? = some (ds[i]'(by omega)) := by simp [hl, hi]
    rw [this, h i _ this]
    simp [hi]
  · simp [hi, hl]
end Fm
set_option linter.all false
namespace Fm
theorem ev_call {F : Fn} {r : LF} {σ : Sd} {h h1 h' : Hd} {ds : List D} {d : D} (a : r σ h = .ok ds h1) (b : F ds h1 = .ok d h') : fCall F r σ h = .ok d h' := by
  show Res.bind _ _ = _; rw [a]; exact b
theorem ev_cons {a : EF} {r : LF} {σ : Sd} {h h1 h2 : Hd} {d : D} {ds : List D} (p : a σ h = .ok d h1) (q : r σ h1 = .ok ds h2) : aCons a r σ h = .ok (d :: ds) h2 := by
  show Res.bind _ _ = _; rw [p, bind_ok, q]; rfl
theorem ev_bin {g : O2} {a b : EF} {σ : Sd} {h h1 h2 h3 : Hd} {x y z : D} (p : a σ h = .ok x h1) (q : b σ h1 = .ok y h2) (r : g x y h2 = .ok z h3) : fBin g a b σ h = .ok z h3 := by
  show Res.bind _ _ = _; rw [p, bind_ok, q]; exact r
theorem ev_tup {r : LF} {σ : Sd} {h h' : Hd} {xs : List D} (p : r σ h = .ok xs h') (q : xs.length ≤ SZ := by exact of_decide_eq_true rfl) : fTup r σ h = .ok (.tup xs) h' := by
  show Res.bind _ _ = _; rw [p]; exact if_pos q
theorem ev_new {r : LF} {σ : Sd} {h h' : Hd} {xs : List D} (p : r σ h = .ok xs h') (q : xs.length ≤ SZ := by exact of_decide_eq_true rfl) : fNew r σ h = .ok (.ref h'.length) (h' ++ [.lst xs]) := by
  show Res.bind _ _ = _; rw [p]; exact if_pos q
theorem ev_ix {a : LF} {b : EF} {σ : Sd} {h h1 h2 : Hd} {l : List D} {i : Int} {d : D} (p : a σ h = .ok l h1) (q : b σ h1 = .ok (.int i) h2) (r : atI l i = some d) : fIx a b σ h = .ok d h2 := by
  show Res.bind _ _ = _; rw [p, bind_ok, q]; simp only [bind_ok, r]
theorem ev_at {a b : EF} {σ : Sd} {h h1 h2 : Hd} {x : D} {l : List D} {i : Int} {d : D} (p : a σ h = .ok x h1) (q : b σ h1 = .ok (.int i) h2) (s : seqOf h2 x = some l) (r : atI l i = some d) : fAt a b σ h = .ok d h2 := by
  show fBin _ _ _ _ _ = _; exact ev_bin p q (by simp only [oAt, s, r])
theorem ev_seq {h : Hd} {n : Nat} {l : List D} (p : h[n]? = some (.lst l)) : seqOf h (.ref n) = some l := by simp only [seqOf, p]
theorem ev_set {i : Nat} {e : EF} {σ : Sd} {h h' : Hd} {d : D} (p : e σ h = .ok d h') : sSet (gN i) e σ h = .nx (σ.set i (some d)) h' := by
  show outE _ _ _ = _; rw [p]; rfl
theorem ev_ret {e : EF} {σ : Sd} {h h' : Hd} {d : D} (p : e σ h = .ok d h') : sRet e σ h = .rt d h' := by
  show outE _ _ _ = _; rw [p]; rfl
theorem ev_exp {e : EF} {σ : Sd} {h h' : Hd} {d : D} (p : e σ h = .ok d h') : sExp e σ h = .nx σ h' := by
  show outE _ _ _ = _; rw [p]; rfl
theorem ev_t {t : TF} {a b : SF} {σ : Sd} {h h1 : Hd} (p : t σ h = .ok true h1) : sIf t a b σ h = a σ h1 := by
  unfold sIf; rw [p]; rfl
theorem ev_f {t : TF} {a b : SF} {σ : Sd} {h h1 : Hd} (p : t σ h = .ok false h1) : sIf t a b σ h = b σ h1 := by
  unfold sIf; rw [p]; rfl
theorem ev_b {a : EF} {σ : Sd} {h h' : Hd} {b : Bool} (p : a σ h = .ok (.bl b) h') : tE a σ h = .ok b h' := by
  show asB _ = _; rw [p]; rfl
theorem ev_not {t : TF} {σ : Sd} {h h' : Hd} {b : Bool} (p : t σ h = .ok b h') : tNot t σ h = .ok (!b) h' := by
  show Res.bind _ _ = _; rw [p]; rfl
theorem ev_and {t u : TF} {σ : Sd} {h h1 h' : Hd} {b : Bool} (p : t σ h = .ok true h1) (q : u σ h1 = .ok b h') : tAnd t u σ h = .ok b h' := by
  show Res.bind _ _ = _; rw [p]; exact q
theorem ev_andf {t u : TF} {σ : Sd} {h h1 : Hd} (p : t σ h = .ok false h1) : tAnd t u σ h = .ok false h1 := by
  show Res.bind _ _ = _; rw [p]; rfl
theorem ev_or {t u : TF} {σ : Sd} {h h1 h' : Hd} {b : Bool} (p : t σ h = .ok false h1) (q : u σ h1 = .ok b h') : tOr t u σ h = .ok b h' := by
  show Res.bind _ _ = _; rw [p]; exact q
theorem ev_ort {t u : TF} {σ : Sd} {h h1 : Hd} (p : t σ h = .ok true h1) : tOr t u σ h = .ok true h1 := by
  show Res.bind _ _ = _; rw [p]; rfl
theorem ev_eq {i j : Int} {h : Hd} : oEq (.int i) (.int j) h = .ok (.bl (decide (i = j))) h := rfl
theorem ev_len {a : LF} {σ : Sd} {h h1 : Hd} {l : List D} (p : a σ h = .ok l h1) : fLen a σ h = .ok (.int l.length) h1 := by
  show Res.bind _ _ = _; rw [p]; rfl
theorem ev_lof {a : EF} {σ : Sd} {h h1 : Hd} {x : D} {l : List D} (p : a σ h = .ok x h1) (s : seqOf h1 x = some l) : lOf a σ h = .ok l h1 := by
  show Res.bind _ _ = _; rw [p]; simp only [bind_ok, s]
theorem ev_put {x i e : EF} {σ : Sd} {h h1 h2 h3 : Hd} {d : D} {n k : Nat} {j : Int} {l : List D} (p : e σ h = .ok d h1) (q : x σ h1 = .ok (.ref n) h2) (r : i σ h2 = .ok (.int j) h3) (s : h3[n]? = some (.lst l)) (t : ixN l.length j = some k) : sPut x i e σ h = .nx σ (h3.set n (.lst (l.set k d))) := by
  simp only [sPut, p, q, r, outE, s, t]
theorem ev_app {x e : EF} {σ : Sd} {h h1 h2 : Hd} {d : D} {n : Nat} {l l0 : List D} (p : x σ h = .ok (.ref n) h1) (q : h1[n]? = some (.lst l0)) (r : e σ h1 = .ok d h2) (s : h2[n]? = some (.lst l)) (t : l.length < SZ) : fApp x e σ h = .ok .non (h2.set n (.lst (l ++ [d]))) := by
  simp only [fApp, p, bind_ok, q, r, oApp, s, if_pos t]
theorem ev_mod {i j : Int} {h : Hd} (p : 0 < j) : oMod (.int i) (.int j) h = .ok (.int (i % j)) h := by
  simp only [oMod, oIc, decide_eq_true p, if_true]
theorem ev_div {i j : Int} {h : Hd} (p : 0 < j) (q : j < 2 ^ 250) : oDiv (.int i) (.int j) h = .ok (.int (i / j)) h := by
  simp only [oDiv, oIc, decide_eq_true p, decide_eq_true q, Bool.and_self, if_true]
theorem ev_eqt {i j : Int} {h : Hd} (e : i = j) : oEq (.int i) (.int j) h = .ok (.bl true) h := by rw [ev_eq, decide_eq_true e]
theorem ev_eqf {i j : Int} {h : Hd} (e : ¬ i = j) : oEq (.int i) (.int j) h = .ok (.bl false) h := by rw [ev_eq, decide_eq_false e]
theorem ev_ltf {i j : Int} {h : Hd} (e : ¬ i < j) : oLt (.int i) (.int j) h = .ok (.bl false) h := by show Res.ok (D.bl (decide (i < j))) h = _; rw [decide_eq_false e]
theorem ev_ltt {i j : Int} {h : Hd} (e : i < j) : oLt (.int i) (.int j) h = .ok (.bl true) h := by show Res.ok (D.bl (decide (i < j))) h = _; rw [decide_eq_true e]
theorem ev_mul {i j : Int} {h : Hd} (p : (sml i || sml j) = true) : oMul (.int i) (.int j) h = .ok (.int (i * j)) h := by
  show (if (sml i || sml j) = true then _ else _) = _
  exact if_pos p
theorem ev_mul1 {i j : Int} {h : Hd} (p : sml i = true) : oMul (.int i) (.int j) h = .ok (.int (i * j)) h := ev_mul (by rw [p]; rfl)
theorem ev_mul2 {i j : Int} {h : Hd} (p : sml j = true) : oMul (.int i) (.int j) h = .ok (.int (i * j)) h := ev_mul (by rw [p, Bool.or_true])
theorem ev_fT {t : TF} {σ : Sd} {h h' : Hd} {b : Bool} (p : t σ h = .ok b h') : fT t σ h = .ok (.bl b) h' := by
  show Res.bind _ _ = _; rw [p]; rfl
theorem ev_new' {r : LF} {σ : Sd} {h0 h g : Hd} {xs : List D} {A : Nat} (hA : A = h0.length) (p : r σ h = .ok xs (h0 ++ g)) (q : xs.length ≤ SZ) : fNew r σ h = .ok (.ref (A + g.length)) (h0 ++ (g ++ [.lst xs])) := by
  rw [ev_new p q, hA, List.length_append, List.append_assoc]
theorem set_pre {h0 g : Hd} {A : Nat} (hA : A = h0.length) (k : Nat) (c : Cell) : (h0 ++ g).set (A + k) c = h0 ++ g.set k c := by
  subst hA
  rw [List.set_append_right _ _ (by omega)]
  congr 2; omega
theorem at_pre' {h0 g : Hd} {A : Nat} (hA : A = h0.length) (k : Nat) : (h0 ++ g)[A + k]? = g[k]? := by
  subst hA
  rw [List.getElem?_append_right (by omega), Nat.add_sub_cancel_left]
theorem app_at {h0 : Hd} {j : Nat} {c : Cell} (g : Hd) (e : h0[j]? = some c) : (h0 ++ g)[j]? = some c := (List.getElem?_append_left (List.getElem?_eq_some_iff.mp e).1).trans e
theorem ev_range {a : EF} {σ : Sd} {h h1 : Hd} {n : Nat} (p : a σ h = .ok (.int n) h1) (hn : n ≤ 1000) : iRange a σ h = .ok ((List.range n).map (fun k : Nat => D.int k), none) h1 := by
  show Res.bind _ _ = _
  rw [p]
  exact if_pos ⟨Int.le_trans (by decide) (Int.natCast_nonneg n), Int.le_trans (Int.ofNat_le.mpr hn) (by decide)⟩
theorem ev_for {it : IF} {tg : GF} {b : SF} {σ : Sd} {h h1 : Hd} {l : List D} {g : Option Nat} {o : Out} (p : it σ h = .ok (l, g) h1) (q : forL g l tg b l σ h1 = o) : sFor it tg b σ h = o := by
  unfold sFor; rw [p]; exact q
theorem ev_comp {nl : Nat} {caps : List Nat} {it : IF} {tg : GF} {cs : List TF} {e : EF} {σ : Sd} {h h1 h2 : Hd} {l ds : List D} {g : Option Nat} (p : it σ h = .ok (l, g) h1) (q : compL g l tg cs e l (caught nl caps σ) h1 = .ok ds h2) : lComp nl caps it tg cs e σ h = .ok ds h2 := by
  show Res.bind _ _ = _; rw [p]; exact q
theorem ev_rep {la : LF} {b : EF} {σ : Sd} {h h1 h2 : Hd} {l : List D} {n : Int} (p : la σ h = .ok l h1) (q : b σ h1 = .ok (.int n) h2) (r : 0 ≤ n ∧ n ≤ 1000 ∧ l.length * n.toNat ≤ 1000) : lRep la b σ h = .ok (List.replicate n.toNat l).flatten h2 := by
  simp only [lRep, p, bind_ok, q, if_pos r]
theorem ev_isL {a : EF} {σ : Sd} {h h1 : Hd} {n : Nat} {l : List D} (p : a σ h = .ok (.ref n) h1) (q : h1[n]? = some (.lst l)) : fIsTy .list a σ h = .ok (.bl true) h1 := by
  simp only [fIsTy, p, bind_ok, isTy, q]; rfl
theorem ev_iseq {a : EF} {σ : Sd} {h h1 : Hd} {n : Nat} {l : List D} (p : a σ h = .ok (.ref n) h1) (q : h1[n]? = some (.lst l)) : iSeq a σ h = .ok (l, some n) h1 := by
  simp only [iSeq, p, bind_ok, q]
theorem ev_int {a : EF} {σ : Sd} {h h1 : Hd} {b : Bool} (p : a σ h = .ok (.bl b) h1) : fInt a σ h = .ok (.int (b2i b)) h1 := by
  simp only [fInt, p, bind_ok]
theorem ev_sum {a : LF} {σ : Sd} {h h1 : Hd} {l : List D} {is : List Int} (p : a σ h = .ok l h1) (q : intsD l = some is) : fSum a σ h = .ok (.int is.sum) h1 := by
  simp only [fSum, p, bind_ok, q]
theorem ev_tupL {a : LF} {σ : Sd} {h h1 : Hd} {l : List D} (p : a σ h = .ok l h1) : fTupL a σ h = .ok (.tup l) h1 := by
  show Res.bind _ _ = _; rw [p]; rfl
theorem ev_gtt {i j : Int} {h : Hd} (e : j < i) : oGt (.int i) (.int j) h = .ok (.bl true) h := by show Res.ok (D.bl (decide (j < i))) h = _; rw [decide_eq_true e]
theorem ev_gtf {i j : Int} {h : Hd} (e : ¬ j < i) : oGt (.int i) (.int j) h = .ok (.bl false) h := by show Res.ok (D.bl (decide (j < i))) h = _; rw [decide_eq_false e]
theorem get_end {h : Hd} {A : Nat} (hA : A = h.length) (c : Cell) : (h ++ [c])[A]? = some c := by rw [hA]; exact List.getElem?_concat_length
theorem set_end {h : Hd} {A : Nat} (hA : A = h.length) (c d : Cell) : (h ++ [c]).set A d = h ++ [d] := by
  have := set_pre (g := [c]) hA 0 d
  rwa [Nat.add_zero] at this
theorem new_end {r : LF} {σ : Sd} {h h' : Hd} {xs : List D} {A : Nat} (hA : A = h'.length) (p : r σ h = .ok xs h') (q : xs.length ≤ SZ) : fNew r σ h = .ok (.ref A) (h' ++ [.lst xs]) := by rw [hA]; exact ev_new p q
theorem getD_at {l : List Int} {i : Nat} (h : i < l.length) : atI (l.map D.int) (i : Int) = some (.int (l.getD i 0)) := atI_nat (by rw [List.getElem?_map, List.getElem?_eq_getElem h, List.getD_eq_getElem?_getD, List.getElem?_eq_getElem h]; rfl)
theorem ev_ift {t : TF} {a b : EF} {σ : Sd} {h h1 : Hd} (p : t σ h = .ok true h1) : fIf t a b σ h = a σ h1 := by
  show Res.bind _ _ = _; rw [p]; rfl
theorem ev_iff {t : TF} {a b : EF} {σ : Sd} {h h1 : Hd} (p : t σ h = .ok false h1) : fIf t a b σ h = b σ h1 := by
  show Res.bind _ _ = _; rw [p]; rfl
theorem sq_nx {a b : SF} {σ σ' : Sd} {h h' : Hd} (e : a σ h = .nx σ' h') : sSeq a b σ h = b σ' h' := by simp only [sSeq, e]
theorem sq_rt {a b : SF} {σ : Sd} {h h' : Hd} {d : D} (e : a σ h = .rt d h') : sSeq a b σ h = .rt d h' := by simp only [sSeq, e]
theorem fn_rt {np n : Nat} {b : SF} {ds : List D} {σ : Sd} {h h' : Hd} {d : D} (hl : ds.length = np) (st : (ds.map some ++ List.replicate (n - ds.length) none : Sd) = σ) (e : b σ h = .rt d h') : mkFn np n b ds h = letGo h (.ok d h') := by
  unfold mkFn runB; rw [if_pos hl, st, e]
theorem fn_nx {np n : Nat} {b : SF} {ds : List D} {σ σ' : Sd} {h h' : Hd} (hl : ds.length = np) (st : (ds.map some ++ List.replicate (n - ds.length) none : Sd) = σ) (e : b σ h = .nx σ' h') : mkFn np n b ds h = letGo h (.ok .non h') := by
  unfold mkFn runB; rw [if_pos hl, st, e]
theorem ev_tests1 {t : TF} {σ : Sd} {h : Hd} {b : Bool} (p : t σ h = .ok b h) : tests [t] σ h = .ok b h := by
  simp only [tests, p, bind_ok]; cases b <;> rfl
theorem ev_iseqT {a : EF} {σ : Sd} {h h1 : Hd} {l : List D} (p : a σ h = .ok (.tup l) h1) : iSeq a σ h = .ok (l, none) h1 := by
  show Res.bind _ _ = _; rw [p]; rfl
theorem oNe_ii (a b : Int) (h : Hd) : oNe (.int a) (.int b) h = .ok (.bl (!decide (a = b))) h := rfl
theorem ev_2 {a b : EF} {σ : Sd} {h h1 h2 : Hd} {d e : D} (p : a σ h = .ok d h1) (q : b σ h1 = .ok e h2) : aCons a (aCons b aNil) σ h = .ok [d, e] h2 := ev_cons p (ev_cons q rfl)
theorem le30 {n m : Nat} (h : n ≤ 30) (q : 30 ≤ m := by decide) : n ≤ m := Nat.le_trans h q
end Fm
set_option linter.all false
namespace Fm
noncomputable def F_is_whole : Fn := mkFn 1 1 (sRet (fT (tAnd (tE (fIsTy .int (fVar 0))) (tNot (tE (fIsTy .bool (fVar 0)))))))
noncomputable def F_is_between : Fn := mkFn 3 3 (sRet (fT (tAnd (tE (fCall F_is_whole (aCons (fVar 0) aNil))) (tE (fChain oLe oLe (fVar 1) (fVar 0) (fVar 2))))))
noncomputable def F_is_opinion : Fn := mkFn 1 1 (sRet (fCall F_is_between (aCons (fVar 0) (aCons (fC (.int 0)) (aCons (fC (.int 1)) aNil)))))
noncomputable def F_many_of : Fn := mkFn 1 1 (sRet (fLen (lOf (fAt (fVar 0) (fC (.int 0))))))
noncomputable def F_ties_of : Fn := mkFn 2 2 (sRet (fAt (fAt (fVar 0) (fC (.int 0))) (fVar 1)))
noncomputable def F_bar_of : Fn := mkFn 2 2 (sRet (fAt (fAt (fVar 0) (fC (.int 1))) (fVar 1)))
noncomputable def F_stay_of : Fn := mkFn 2 2 (sRet (fAt (fAt (fVar 0) (fC (.int 2))) (fVar 1)))
noncomputable abbrev B0_fits : SF := (sSeq (sIf (tNot (tE (fCall F_is_opinion (aCons (fVar 3) aNil)))) (sRet (fC (.bl false))) sNil)
    (sSeq (sSet (gN 4) (fCall F_stay_of (aCons (fVar 0) (aCons (fVar 2) aNil))))
    (sIf (tAnd (tE (fBin oIsNotN (fVar 4) (fC .non))) (tE (fBin oNe (fVar 3) (fVar 4)))) (sRet (fC (.bl false))) sNil)))
noncomputable def F_fits : Fn := mkFn 2 5 (sSeq (sIf (tOr (tNot (tE (fIsTy .tuple (fVar 1)))) (tE (fBin oNe (fLen (lOf (fVar 1))) (fCall F_many_of (aCons (fVar 0) aNil))))) (sRet (fC (.bl false))) sNil)
    (sSeq (sFor (iEnum (fVar 1)) (gT [2, 3]) B0_fits)
    (sRet (fC (.bl true)))))
noncomputable def F_check_stand : Fn := mkFn 2 2 (sIf (tNot (tE (fCall F_fits (aCons (fVar 0) (aCons (fVar 1) aNil))))) sBad sNil)
noncomputable def F_pull_at : Fn := mkFn 3 3 (sRet (fBin oMul (fC (.int 2)) (fSum (lComp 2 [1] (iSeq (fCall F_ties_of (aCons (fVar 0) (aCons (fVar 2) aNil)))) (gT [0, 1]) [(tE (fBin oEq (fAt (fVar 2) (fVar 0)) (fC (.int 1))))] (fVar 1)))))
noncomputable abbrev B0_sum_at : SF := (sSeq (sAug 3 oIAdd (fBin oMul (fBin oAdd (fBin oMul (fC (.int 2)) (fCall F_bar_of (aCons (fVar 0) (aCons (fVar 4) aNil)))) (fC (.int 1))) (fBin oAdd (fAt (fVar 1) (fVar 4)) (fAt (fVar 2) (fVar 4)))))
    (sIf (tE (fBin oEq (fAt (fVar 2) (fVar 4)) (fC (.int 1)))) (sAug 3 oISub (fBin oAdd (fBin oMul (fC (.int 2)) (fCall F_pull_at (aCons (fVar 0) (aCons (fVar 1) (aCons (fVar 4) aNil))))) (fBin oMul (fC (.int 2)) (fAt (fVar 1) (fVar 4))))) sNil))
noncomputable def F_sum_at : Fn := mkFn 3 5 (sSeq (sSet (gN 3) (fC (.int 0)))
    (sSeq (sFor (iRange (fCall F_many_of (aCons (fVar 0) aNil))) (gN 4) B0_sum_at)
    (sRet (fVar 3))))
noncomputable abbrev B0_sums : SF := (sExp (fCall F_check_stand (aCons (fVar 0) (aCons (fVar 2) aNil))))
noncomputable def F_sums : Fn := mkFn 2 3 (sSeq (sFor (iSeq (fVar 1)) (gN 2) B0_sums)
    (sRet (fNew (lComp 1 [0, 1] (iRange (fBin oSub (fLen (lOf (fVar 1))) (fC (.int 1)))) (gN 0) [] (fCall F_sum_at (aCons (fVar 1) (aCons (fAt (fVar 2) (fVar 0)) (aCons (fAt (fVar 2) (fBin oAdd (fVar 0) (fC (.int 1)))) aNil))))))))
theorem is_whole_int (i : Int) (h : Hd) : F_is_whole [.int i] h = .ok (.bl true) h := (fn_rt (d := .bl true) (h' := h) rfl rfl rfl).trans letGo_self
theorem is_between_int (i a b : Int) (h : Hd) : F_is_between [.int i, .int a, .int b] h = .ok (.bl (decide (a ≤ i) && decide (i ≤ b))) h := by
  have ch : fChain oLe oLe (fVar 1) (fVar 0) (fVar 2) [some (.int i), some (.int a), some (.int b)] h = .ok (.bl (decide (a ≤ i) && decide (i ≤ b))) h := by
    show (match D.bl (decide (a ≤ i)) with | .bl true => Res.ok (D.bl (decide (i ≤ b))) h | .bl false => .ok (.bl false) h | _ => .bad) = _
    cases decide (a ≤ i) <;> rfl
  have t : tAnd (tE (fCall F_is_whole (aCons (fVar 0) aNil))) (tE (fChain oLe oLe (fVar 1) (fVar 0) (fVar 2))) [some (.int i), some (.int a), some (.int b)] h = .ok (decide (a ≤ i) && decide (i ≤ b)) h := ev_and (ev_b (ev_call (ev_cons rfl rfl) (is_whole_int i h))) (ev_b ch)
  exact (fn_rt rfl rfl (ev_ret (ev_fT t))).trans letGo_self
theorem is_opinion_int (i : Int) (h : Hd) : F_is_opinion [.int i] h = .ok (.bl (decide (0 ≤ i) && decide (i ≤ 1))) h := by
  exact (fn_rt rfl rfl (ev_ret (ev_call (ev_cons rfl (ev_2 rfl rfl)) (is_between_int i 0 1 h)))).trans letGo_self
theorem many_of_web (w : Web) (h : Hd) : F_many_of [w.enc] h = .ok (.int w.ties.length) h := by
  have := (fn_rt (np := 1) (n := 1) (b := sRet (fLen (lOf (fAt (fVar 0) (fC (.int 0)))))) (ds := [w.enc]) (h := h) rfl rfl (ev_ret (ev_len (ev_lof (ev_at rfl rfl rfl rfl) rfl)))).trans letGo_self
  rwa [List.length_map] at this
theorem ties_of_web (w : Web) (h : Hd) {p : Nat} {r : List (Nat × Int)} (e : w.ties[p]? = some r) : F_ties_of [w.enc, .int p] h = .ok (encR r) h := by
  have q : atI (w.ties.map encR) (p : Int) = some (encR r) := atI_nat (by simp [e])
  exact (fn_rt rfl rfl (ev_ret (ev_at (ev_at rfl rfl rfl rfl) rfl rfl q))).trans letGo_self
theorem bar_of_web (w : Web) (h : Hd) {p : Nat} {r : Int} (e : w.bars[p]? = some r) : F_bar_of [w.enc, .int p] h = .ok (.int r) h := by
  have q : atI (w.bars.map .int) (p : Int) = some (.int r) := atI_nat (by simp [e])
  exact (fn_rt rfl rfl (ev_ret (ev_at (ev_at rfl rfl rfl rfl) rfl rfl q))).trans letGo_self
theorem stay_of_web (w : Web) (h : Hd) {p : Nat} {r : Option Int} (e : w.stays[p]? = some r) : F_stay_of [w.enc, .int p] h = .ok (encO r) h := by
  have q : atI (w.stays.map encO) (p : Int) = some (encO r) := atI_nat (by simp [e])
  exact (fn_rt rfl rfl (ev_ret (ev_at (ev_at rfl rfl rfl rfl) rfl rfl q))).trans letGo_self
theorem fits_ok {w : Web} {n : Nat} {s : List Int} (W : w.Ok n) (F : Fits w n s) (h : Hd) : F_fits [w.enc, encI s] h = .ok (.bl true) h := by
  obtain ⟨σ', h', h1, h2, a, b, c, h3⟩ := forL_next (P := fun _ σ h' => h' = h ∧ ∃ a b c, σ = [some w.enc, some (encI s), a, b, c]) (g := none) (k := 0)
      (all := ((List.range (s.map D.int).length).zip (s.map D.int)).map fun p => D.tup [.int (p.1 : Nat), p.2]) (fun _ _ _ _ => trivial)
      (xs := ((List.range (s.map D.int).length).zip (s.map D.int)).map fun p => D.tup [.int (p.1 : Nat), p.2]) (tg := gT [2, 3]) (σ := [some w.enc, some (encI s), none, none, none]) (h := h)
      (b := B0_fits) (by
      rintro i x σ h0 hx ⟨rfl, a, b, c, rfl⟩
      have hi : i < s.length := by
        have := (List.getElem?_eq_some_iff.mp hx).1
        simpa using this
      have hx' : x = .tup [.int (i : Nat), .int s[i]] := by simpa [hi, List.getElem?_eq_getElem] using hx.symm
      subst hx'
      have hs : w.stays[i]? = some (w.stays[i]'(by rw [W.s, ← F.len]; exact hi)) := List.getElem?_eq_getElem _
      generalize w.stays[i]'(by rw [W.s, ← F.len]; exact hi) = st at hs
      have op : F_is_opinion [.int s[i]] h0 = .ok (.bl true) h0 := by
        rw [is_opinion_int]; rcases F.op _ (List.getElem_mem hi) with e | e <;> rw [e] <;> rfl
      have s1 : sIf (tNot (tE (fCall F_is_opinion (aCons (fVar 3) aNil)))) (sRet (fC (.bl false))) sNil [some w.enc, some (encI s), some (.int i), some (.int s[i]), c] h0 = .nx [some w.enc, some (encI s), some (.int i), some (.int s[i]), c] h0 := ev_f (ev_not (ev_b (ev_call (ev_cons rfl rfl) op)))
      have sv := stay_of_web w h0 hs
      cases st with
      | none => exact ⟨_, rfl, _, h0, (sq_nx s1).trans ((sq_nx (ev_set (ev_call (ev_2 rfl rfl) sv))).trans (ev_f (ev_andf (ev_b (ev_bin rfl rfl rfl))))), rfl, _, _, _, rfl⟩
      | some y =>
        have hy : s[i] = y := by have := F.st i y hs; rw [List.getElem?_eq_getElem hi] at this; exact Option.some.inj this
        exact ⟨_, rfl, _, h0, (sq_nx s1).trans ((sq_nx (ev_set (ev_call (ev_2 rfl rfl) sv))).trans (ev_f (ev_and (ev_b (ev_bin rfl rfl rfl)) (ev_b (ev_bin rfl rfl (by rw [show encO (some y) = D.int y from rfl, oNe_ii, decide_eq_true hy]; rfl)))))), rfl, _, _, _, rfl⟩) ⟨rfl, _, _, _, rfl⟩
  rw [h2, h3] at h1
  have s1 : sIf (tOr (tNot (tE (fIsTy .tuple (fVar 1)))) (tE (fBin oNe (fLen (lOf (fVar 1))) (fCall F_many_of (aCons (fVar 0) aNil))))) (sRet (fC (.bl false))) sNil [some w.enc, some (encI s), none, none, none] h = .nx [some w.enc, some (encI s), none, none, none] h :=
    ev_f (ev_or (ev_not (b := true) (ev_b rfl)) (ev_b (ev_bin (ev_len (ev_lof rfl rfl)) (ev_call (ev_cons rfl rfl) (many_of_web w h)) (by rw [oNe_ii, List.length_map, F.len, W.t, decide_eq_true rfl]; rfl))))
  exact (fn_rt rfl rfl ((sq_nx s1).trans ((sq_nx (ev_for rfl h1)).trans (ev_ret rfl)))).trans letGo_self
theorem check_ok {w : Web} {n : Nat} {s : List Int} (W : w.Ok n) (F : Fits w n s) (h : Hd) : F_check_stand [w.enc, encI s] h = .ok .non h := by
  exact (fn_nx rfl rfl (ev_f (ev_not (ev_b (ev_call (ev_2 rfl rfl) (fits_ok W F h)))))).trans letGo_self
theorem intsD_map (l : List Int) : intsD (l.map .int) = some l := by
  induction l with
  | nil => rfl
  | cons x xs ih => simp [intsD, ih]
theorem at_enc {s : List Int} {i : Nat} (h : i < s.length) : atI (s.map .int) (i : Int) = some (.int s[i]) := atI_nat (by simp [h])
noncomputable def pulledL (r : List (Nat × Int)) (s : List Int) : List Int := (r.filter fun p => decide (s.getD p.1 0 = 1)).map (·.2)
noncomputable def pulled (r : List (Nat × Int)) (s : List Int) : Int := (pulledL r s).sum
theorem pull_key {r : List (Nat × Int)} {s : List Int} (hr : ∀ q ∈ r, q.1 < s.length) (h : Hd) : compL none (r.map encP) (gT [0, 1]) [(tE (fBin oEq (fAt (fVar 2) (fVar 0)) (fC (.int 1))))] (fVar 1) (r.map encP) [none, none, some (encI s)] h = .ok ((pulledL r s).map D.int) h := by
  have key : compL none (r.map encP) (gT [0, 1]) [(tE (fBin oEq (fAt (fVar 2) (fVar 0)) (fC (.int 1))))] (fVar 1) (r.map encP) [none, none, some (encI s)] h
      = .ok (((r.map encP).filter fun d => match d with | .tup [.int i, _] => decide (s.getD i.toNat 0 = 1) | _ => false).map fun d => match d with | .tup [_, x] => x | _ => .non) h := by
    refine compL_pure (g := none) (I := fun σ => ∃ a b, σ = [a, b, some (encI s)]) _ _ trivial ?_ ⟨_, _, rfl⟩
    rintro x hx σ ⟨a, b, rfl⟩
    obtain ⟨⟨q, wt⟩, hq, rfl⟩ := List.mem_map.mp hx
    exact ⟨_, rfl, ⟨_, _, rfl⟩, ev_tests1 (ev_b (ev_bin (ev_at rfl rfl rfl (getD_at (hr _ hq))) rfl ev_eq)), fun _ => rfl⟩
  rw [key, pulledL, List.filter_map, List.map_map, List.map_map]
  rfl
theorem pull_at_ok {w : Web} {n : Nat} {s : List Int} (W : w.Ok n) (hs : s.length = n) {p : Nat} {r : List (Nat × Int)} (e : w.ties[p]? = some r) (h : Hd) :
    F_pull_at [w.enc, encI s, .int p] h = .ok (.int (2 * pulled r s)) h := by
  have hr : ∀ q ∈ r, q.1 < s.length := fun q hq => by rw [hs]; exact W.lt r (List.mem_of_getElem? e) q hq
  exact (fn_rt rfl rfl (ev_ret (ev_bin rfl (ev_sum (ev_comp (ev_iseqT (ev_call (ev_2 rfl rfl) (ties_of_web w h e))) (pull_key hr h)) (intsD_map _)) (ev_mul1 (by decide))))).trans letGo_self
theorem at_map {α : Type} {f : α → D} {l : List α} {i : Nat} (h : i < l.length) : atI (l.map f) (i : Int) = some (f l[i]) := atI_nat (by simp [h])
end Fm
set_option linter.all false
namespace Fm
noncomputable def F_next_at : Fn := mkFn 3 6 (sSeq (sSet (gN 3) (fCall F_stay_of (aCons (fVar 0) (aCons (fVar 2) aNil))))
    (sSeq (sIf (tE (fBin oIsNotN (fVar 3) (fC .non))) (sRet (fVar 3)) sNil)
    (sSeq (sSet (gN 4) (fCall F_pull_at (aCons (fVar 0) (aCons (fVar 1) (aCons (fVar 2) aNil)))))
    (sSeq (sSet (gN 5) (fCall F_bar_of (aCons (fVar 0) (aCons (fVar 2) aNil))))
    (sSeq (sIf (tE (fBin oEq (fVar 4) (fVar 5))) (sRet (fAt (fVar 1) (fVar 2))) sNil)
    (sRet (fIf (tE (fBin oGt (fVar 4) (fVar 5))) (fC (.int 1)) (fC (.int 0)))))))))
noncomputable def F_turn_at : Fn := mkFn 2 2 (sRet (fTupL (lComp 1 [0, 1] (iRange (fCall F_many_of (aCons (fVar 0) aNil))) (gN 0) [] (fCall F_next_at (aCons (fVar 1) (aCons (fVar 2) (aCons (fVar 0) aNil)))))))
noncomputable abbrev B0_history : SF := (sExp (fApp (fVar 3) (fCall F_turn_at (aCons (fVar 0) (aCons (fAt (fVar 3) (fVar 4)) aNil)))))
noncomputable def F_history : Fn := mkFn 3 5 (sSeq (sExp (fCall F_check_stand (aCons (fVar 0) (aCons (fVar 1) aNil))))
    (sSeq (sIf (tE (fBin oGt (fVar 2) (fC (.int 400)))) sBad sNil)
    (sSeq (sSet (gN 3) (fNew (aCons (fVar 1) aNil)))
    (sSeq (sFor (iRange (fVar 2)) (gN 4) B0_history)
    (sRet (fVar 3))))))
noncomputable abbrev B0_ended : SF := (sSeq (sExp (fApp (fVar 2) (fVar 3)))
    (sSet (gN 3) (fCall F_turn_at (aCons (fVar 0) (aCons (fVar 3) aNil)))))
noncomputable def F_ended : Fn := mkFn 2 5 (sSeq (sExp (fCall F_check_stand (aCons (fVar 0) (aCons (fVar 1) aNil))))
    (sSeq (sSet (gN 2) (fNew (aCons (fVar 1) (aCons (fCall F_turn_at (aCons (fVar 0) (aCons (fVar 1) aNil))) aNil))))
    (sSeq (sSet (gN 3) (fCall F_turn_at (aCons (fVar 0) (aCons (fAt (fVar 2) (fC (.int 1))) aNil))))
    (sSeq (sWhile (tE (fBin oNe (fVar 3) (fAt (fVar 2) (fC (.int (-2)))))) B0_ended)
    (sSeq (sSet (gN 4) (fIf (tE (fBin oEq (fAt (fVar 2) (fC (.int (-1)))) (fAt (fVar 2) (fC (.int (-2)))))) (fC (.str [114, 101, 115, 116])) (fC (.str [112, 97, 105, 114]))))
    (sRet (fTup (aCons (fBin oSub (fLen (lOf (fVar 2))) (fC (.int 2))) (aCons (fVar 4) (aCons (fVar 2) aNil))))))))))
noncomputable def nextI (w : Web) (s : List Int) (p : Nat) : Int := match w.stays.getD p none with
  | some x => x
  | none => if 2 * pulled (w.ties.getD p []) s = w.bars.getD p 0 then s.getD p 0 else if w.bars.getD p 0 < 2 * pulled (w.ties.getD p []) s then 1 else 0
noncomputable def turnS (w : Web) (n : Nat) (s : List Int) : List Int := (List.range n).map (nextI w s)
theorem next_at_ok {w : Web} {n : Nat} {s : List Int} (W : w.Ok n) (F : Fits w n s) {p : Nat} (hp : p < n) (h : Hd) : F_next_at [w.enc, encI s, .int p] h = .ok (.int (nextI w s p)) h := by
  have ht : p < w.ties.length := by rw [W.t]; exact hp
  have hb : p < w.bars.length := by rw [W.b]; exact hp
  have hst : p < w.stays.length := by rw [W.s]; exact hp
  have hs : p < s.length := by rw [F.len]; exact hp
  have et : w.ties[p]? = some w.ties[p] := by simp [ht]
  have eb : w.bars[p]? = some w.bars[p] := by simp [hb]
  have es : w.stays[p]? = some w.stays[p] := by simp [hst]
  have pull := pull_at_ok W F.len et h
  have gt : w.ties.getD p [] = w.ties[p] := by simp [List.getD, ht]
  have gb : w.bars.getD p 0 = w.bars[p] := by simp [List.getD, hb]
  have gs : w.stays.getD p none = w.stays[p] := by simp [List.getD, hst]
  have gi : s.getD p 0 = s[p] := by simp [List.getD, hs]
  have ai := at_enc hs
  cases c : w.stays[p] with
  | some x =>
    rw [c] at es
    have nx : nextI w s p = x := by unfold nextI; rw [gs, c]
    rw [nx]
    exact (fn_rt rfl rfl ((sq_nx (ev_set (ev_call (ev_2 rfl rfl) (stay_of_web w h es)))).trans (sq_rt ((ev_t (ev_b (ev_bin rfl rfl rfl))).trans (ev_ret rfl))))).trans letGo_self
  | none =>
    rw [c] at es
    have sv := stay_of_web w h es
    have bv := bar_of_web w h eb
    simp only [nextI, gs, c, gt, gb, gi]
    have s1 : sSet (gN 3) (fCall F_stay_of (aCons (fVar 0) (aCons (fVar 2) aNil))) [some w.enc, some (encI s), some (.int p), none, none, none] h = .nx [some w.enc, some (encI s), some (.int p), some .non, none, none] h := ev_set (ev_call (ev_2 rfl rfl) sv)
    have s2 : sIf (tE (fBin oIsNotN (fVar 3) (fC .non))) (sRet (fVar 3)) sNil [some w.enc, some (encI s), some (.int p), some .non, none, none] h = .nx [some w.enc, some (encI s), some (.int p), some .non, none, none] h := ev_f (ev_b (ev_bin rfl rfl rfl))
    generalize 2 * pulled w.ties[p] s = P at pull
    have s3 : sSet (gN 4) (fCall F_pull_at (aCons (fVar 0) (aCons (fVar 1) (aCons (fVar 2) aNil)))) [some w.enc, some (encI s), some (.int p), some .non, none, none] h = .nx [some w.enc, some (encI s), some (.int p), some .non, some (.int P), none] h := ev_set (ev_call (ev_cons rfl (ev_2 rfl rfl)) pull)
    have s4 : sSet (gN 5) (fCall F_bar_of (aCons (fVar 0) (aCons (fVar 2) aNil))) [some w.enc, some (encI s), some (.int p), some .non, some (.int P), none] h = .nx [some w.enc, some (encI s), some (.int p), some .non, some (.int P), some (.int w.bars[p])] h := ev_set (ev_call (ev_2 rfl rfl) bv)
    have go : ∀ {v : Int}, sSeq (sIf (tE (fBin oEq (fVar 4) (fVar 5))) (sRet (fAt (fVar 1) (fVar 2))) sNil) (sRet (fIf (tE (fBin oGt (fVar 4) (fVar 5))) (fC (.int 1)) (fC (.int 0)))) [some w.enc, some (encI s), some (.int p), some .non, some (.int P), some (.int w.bars[p])] h = .rt (.int v) h → F_next_at [w.enc, encI s, .int p] h = .ok (.int v) h := fun e => (fn_rt rfl rfl ((sq_nx s1).trans ((sq_nx s2).trans ((sq_nx s3).trans ((sq_nx s4).trans e))))).trans letGo_self
    by_cases e1 : P = w.bars[p]
    · rw [if_pos e1]; exact go (sq_rt ((ev_t (ev_b (ev_bin rfl rfl (ev_eqt e1)))).trans (ev_ret (ev_at rfl rfl rfl ai))))
    · rw [if_neg e1]
      by_cases e2 : w.bars[p] < P
      · rw [if_pos e2]; exact go ((sq_nx (ev_f (ev_b (ev_bin rfl rfl (ev_eqf e1))))).trans (ev_ret ((ev_ift (ev_b (ev_bin rfl rfl (ev_gtt e2)))).trans rfl)))
      · rw [if_neg e2]; exact go ((sq_nx (ev_f (ev_b (ev_bin rfl rfl (ev_eqf e1))))).trans (ev_ret ((ev_iff (ev_b (ev_bin rfl rfl (ev_gtf e2)))).trans rfl)))
theorem turn_at_ok {w : Web} {n : Nat} {s : List Int} (W : w.Ok n) (F : Fits w n s) (h : Hd) : F_turn_at [w.enc, encI s] h = .ok (encI (turnS w n s)) h := by
  have key : compL none ((List.range n).map fun k : Nat => D.int k) (gN 0) [] (fCall F_next_at (aCons (fVar 1) (aCons (fVar 2) (aCons (fVar 0) aNil)))) ((List.range n).map fun k : Nat => D.int k) [none, some w.enc, some (encI s)] h
      = .ok (((((List.range n).map fun k : Nat => D.int k).filter fun _ => true)).map fun d => match d with | .int i => .int (nextI w s i.toNat) | _ => .non) h := by
    refine compL_pure (g := none) (I := fun σ => ∃ a, σ = [a, some w.enc, some (encI s)]) _ _ trivial ?_ ⟨_, rfl⟩
    rintro x hx σ ⟨a, rfl⟩
    obtain ⟨i, hi, rfl⟩ := List.mem_map.mp hx
    have hi := List.mem_range.mp hi
    exact ⟨_, rfl, ⟨_, rfl⟩, by simp, fun _ => ev_call (ev_cons rfl (ev_2 rfl rfl)) (next_at_ok W F hi h)⟩
  have k2 : ((((List.range n).map fun k : Nat => D.int k).filter fun _ => true)).map (fun d => match d with | .int i => D.int (nextI w s i.toNat) | _ => .non) = (turnS w n s).map D.int := by
    rw [List.filter_eq_self.mpr (by simp), List.map_map, turnS, List.map_map]; rfl
  rw [k2] at key
  have mq : F_many_of [w.enc] h = .ok (.int n) h := W.t ▸ many_of_web w h
  exact (fn_rt rfl rfl (ev_ret (ev_tupL (ev_comp (ev_range (ev_call (ev_cons rfl rfl) mq) W.sz) key)))).trans letGo_self
noncomputable def StayOk (w : Web) : Prop := ∀ x ∈ w.stays, x = none ∨ x = some 0 ∨ x = some 1
theorem fits_bit {w : Web} {n : Nat} {s : List Int} (F : Fits w n s) (i : Nat) : s.getD i 0 = 0 ∨ s.getD i 0 = 1 := by
  by_cases hi : i < s.length
  · rw [List.getD, List.getElem?_eq_getElem hi]; exact F.op _ (List.getElem_mem hi)
  · rw [List.getD, List.getElem?_eq_none (by omega)]; exact .inl rfl
theorem next_bit {w : Web} {n : Nat} {s : List Int} (F : Fits w n s) (S : StayOk w) (p : Nat) : nextI w s p = 0 ∨ nextI w s p = 1 := by
  unfold nextI
  cases c : w.stays.getD p none with
  | some x =>
    have : some x ∈ w.stays := by
      rw [List.getD] at c
      cases e : w.stays[p]? with
      | none => rw [e] at c; cases c
      | some y => rw [e] at c; simp at c; subst c; exact List.mem_of_getElem? e
    have := S _ this
    simp at this
    exact this
  | none =>
    simp only
    split
    · exact fits_bit F p
    · split <;> simp
theorem turn_fits {w : Web} {n : Nat} {s : List Int} (W : w.Ok n) (S : StayOk w) (F : Fits w n s) : Fits w n (turnS w n s) where
  len := by simp [turnS]
  op := fun x hx => by
    obtain ⟨p, hp, rfl⟩ := List.mem_map.mp hx
    exact next_bit F S p
  st := fun i x e => by
    have hi : i < n := by rw [← W.s]; exact (List.getElem?_eq_some_iff.mp e).1
    have : w.stays.getD i none = some x := by simp [List.getD, e]
    have hn : nextI w s i = x := by unfold nextI; rw [this]
    simp [turnS, hi, hn]
noncomputable def hist (w : Web) (n : Nat) (s : List Int) : Nat → List Int
  | 0 => s
  | k + 1 => turnS w n (hist w n s k)
theorem hist_fits {w : Web} {n : Nat} {s : List Int} (W : w.Ok n) (S : StayOk w) (F : Fits w n s) : ∀ k, Fits w n (hist w n s k)
  | 0 => F
  | k + 1 => turn_fits W S (hist_fits W S F k)
noncomputable def histL (w : Web) (n : Nat) (s : List Int) (m : Nat) : List (List Int) := (List.range m).map (hist w n s)
theorem histL_succ {w : Web} {n : Nat} {s : List Int} (m : Nat) : histL w n s (m + 1) = histL w n s m ++ [hist w n s m] := by simp [histL, List.range_succ]
theorem histL_len {w : Web} {n : Nat} {s : List Int} (m : Nat) : (histL w n s m).length = m := by simp [histL]
theorem histL_at {w : Web} {n : Nat} {s : List Int} {m i : Nat} (h : i < m) : atI ((histL w n s m).map encI) (i : Int) = some (encI (hist w n s i)) := atI_nat (by simp [histL, h])
theorem history_ok {w : Web} {n : Nat} {s : List Int} (W : w.Ok n) (S : StayOk w) (F : Fits w n s) {m : Nat} (hm : m ≤ 400) (h : Hd) :
    F_history [w.enc, encI s, .int m] h = .ok (.ref h.length) (h ++ [.lst ((histL w n s (m + 1)).map encI)]) := by
  obtain ⟨σ', h', h1, h2, x, h3⟩ := forL_next (P := fun k σ h' => h' = h ++ [.lst ((histL w n s (k + 1)).map encI)] ∧ ∃ x, σ = [some w.enc, some (encI s), some (.int m), some (.ref h.length), x]) (g := none) (k := 0)
      (all := (List.range m).map fun k : Nat => D.int k) (fun _ _ _ _ => trivial)
      (xs := (List.range m).map fun k : Nat => D.int k) (tg := gN 4) (σ := [some w.enc, some (encI s), some (.int m), some (.ref h.length), none]) (h := h ++ [.lst [encI s]])
      (b := B0_history) (by
      rintro i x σ h0 hx ⟨rfl, c, rfl⟩
      have hi : i < m := by
        have := (List.getElem?_eq_some_iff.mp hx).1
        simpa using this
      have hx' : x = .int (i : Nat) := by simpa [hi, List.getElem?_eq_getElem] using hx.symm
      subst hx'
      rw [Nat.zero_add]
      have ai := histL_at (w := w) (n := n) (s := s) (m := i + 1) (i := i) (Nat.lt_succ_self i)
      have tk := turn_at_ok W (hist_fits W S F i) (h ++ [.lst ((histL w n s (i + 1)).map encI)])
      have lz : ((histL w n s (i + 1)).map encI).length < SZ := by rw [List.length_map, histL_len]; exact Nat.lt_of_le_of_lt (Nat.le_trans (Nat.succ_le_of_lt hi) hm) (by decide)
      refine ⟨_, rfl, [some w.enc, some (encI s), some (.int m), some (.ref h.length), some (.int i)], h ++ [.lst ((histL w n s (i + 1 + 1)).map encI)], ?_, rfl, _, rfl⟩
      exact (ev_exp (ev_app rfl List.getElem?_concat_length (ev_call (ev_cons rfl (ev_cons (ev_at rfl rfl (ev_seq List.getElem?_concat_length) ai) rfl)) tk) List.getElem?_concat_length lz)).trans (by rw [set_end rfl, histL_succ (i + 1), List.map_append]; rfl)) ⟨rfl, _, rfl⟩
  have e0 : 0 + ((List.range m).map fun k : Nat => D.int k).length = m := by simp
  rw [e0] at h2
  subst h2 h3
  have z3 : ¬ (400 : Int) < m := Int.not_lt.mpr (Int.ofNat_le.mpr hm)
  have e2 : sSet (gN 3) (fNew (aCons (fVar 1) aNil)) [some w.enc, some (encI s), some (.int m), none, none] h = .nx [some w.enc, some (encI s), some (.int m), some (.ref h.length), none] (h ++ [.lst [encI s]]) := ev_set (ev_new (ev_cons rfl rfl))
  exact (fn_rt rfl rfl ((sq_nx (ev_exp (ev_call (ev_2 rfl rfl) (check_ok W F h)))).trans ((sq_nx (ev_f (ev_b (ev_bin rfl rfl (ev_gtf z3))))).trans ((sq_nx e2).trans ((sq_nx (ev_for (ev_range rfl (Nat.le_trans hm (by decide))) h1)).trans (ev_ret rfl)))))).trans letGo_ref'
end Fm
set_option linter.all false
namespace Fm
end Fm
set_option linter.all false
namespace Fm
theorem peqs_ints : ∀ (a b : List Int), a.length = b.length → peqs (a.map .int) (b.map .int) = some (decide (a = b))
  | [], [], _ => by simp [peqs]
  | x :: a, y :: b, h => by
    have ih := peqs_ints a b (by simpa using h)
    simp only [List.map_cons, peqs, peq, ih]
    by_cases e : x = y <;> by_cases e2 : a = b <;> simp [e, e2]
  | [], _ :: _, h => by simp at h
  | _ :: _, [], h => by simp at h
theorem deps_ints (l : List Int) : deps (l.map .int) = 0 := by
  induction l with
  | nil => rfl
  | cons x l ih => simp [deps, dep, ih]
theorem dep_enc (l : List Int) : dep (encI l) = 1 := by simp [encI, dep, deps_ints]
theorem peq_enc {a b : List Int} (h : a.length = b.length) : peq (encI a) (encI b) = some (decide (a = b)) := by
  simp only [encI, peq, peqs_ints a b h, Option.map_some, List.length_map, h]
  simp
theorem ng_of {k n : Nat} (h1 : 1 ≤ k) (h2 : k ≤ n) : ¬ 0 ≤ -(k : Int) ∧ -(n : Int) ≤ -(k : Int) ∧ (-(k : Int) + (n : Int)).toNat = n - k := by omega
theorem atI_neg {l : List D} {k : Nat} (h1 : 1 ≤ k) (h2 : k ≤ l.length) : atI l (-(k : Int)) = l[l.length - k]? := by
  have q := ng_of h1 h2
  unfold atI ixN
  rw [if_neg q.1, if_pos q.2.1, q.2.2]; rfl
theorem histL_bk {w : Web} {n : Nat} {s : List Int} (k j : Nat) (h1 : 1 ≤ j) : atI ((histL w n s (k + j)).map encI) (-(j : Int)) = some (encI (hist w n s k)) := by
  rw [atI_neg h1 (by rw [List.length_map, histL_len]; exact Nat.le_add_left j k), List.length_map, histL_len, Nat.add_sub_cancel, List.getElem?_map, histL, List.getElem?_map, List.getElem?_range (Nat.lt_add_of_pos_right h1)]; rfl
end Fm
set_option linter.all false
namespace Fm
noncomputable abbrev B0_l_wide : SF := (sSeq (sSet (gN 5) (fBin oMod (fBin oMul (fBin oAdd (fBin oAdd (fBin oAdd (fVar 2) (fBin oMul (fC (.int 31)) (fVar 1))) (fBin oMul (fVar 4) (fVar 4))) (fC (.int 7))) (fC (.int 48271))) (fC (.int 2147483629))))
    (sSeq (sSet (gN 5) (fBin oMod (fBin oMul (fBin oAdd (fVar 5) (fC (.int 5))) (fBin oAdd (fBin oAdd (fVar 5) (fVar 4)) (fC (.int 3)))) (fC (.int 2147483587))))
    (sSeq (sSet (gN 5) (fBin oMod (fBin oMul (fBin oAdd (fVar 5) (fVar 1)) (fC (.int 69621))) (fC (.int 2147483563))))
    (sSet (gN 3) (fBin oAdd (fBin oMul (fVar 3) (fC (.int 2147483563))) (fBin oMod (fBin oMul (fVar 5) (fBin oAdd (fVar 5) (fC (.int 11)))) (fC (.int 2147483549))))))))
noncomputable def F_l_wide : Fn := mkFn 2 6 (sSeq (sSet (gN 2) (fC (.int 11)))
    (sSeq (sIf (tE (fBin oGt (fLen (lOf (fVar 0))) (fC (.int 0)))) (sSet (gN 2) (fBin oMod (fAt (fVar 0) (fBin oMod (fVar 1) (fLen (lOf (fVar 0))))) (fC (.int 2147483647)))) sNil)
    (sSeq (sSet (gN 3) (fC (.int 0)))
    (sSeq (sFor (iRange (fC (.int 9))) (gN 4) B0_l_wide)
    (sRet (fVar 3))))))
noncomputable def F_l_cell : Fn := mkFn 2 2 (sSeq (sIf (tAnd (tE (fBin oLt (fVar 1) (fLen (lOf (fVar 0))))) (tE (fBin oEq (fBin oMod (fAt (fVar 0) (fC (.int 0))) (fC (.int 2))) (fC (.int 0))))) (sRet (fAt (fVar 0) (fVar 1))) sNil)
    (sRet (fCall F_l_wide (aCons (fVar 0) (aCons (fVar 1) aNil)))))
noncomputable def F_l_digit : Fn := mkFn 2 3 (sSeq (sSet (gN 2) (fBin oMod (fAt (fVar 0) (fC (.int 0))) (fVar 1)))
    (sSeq (sPut (fVar 0) (fC (.int 0)) (fBin oDiv (fAt (fVar 0) (fC (.int 0))) (fVar 1)))
    (sRet (fVar 2))))
noncomputable def F_l_weight : Fn := mkFn 2 3 (sSeq (sIf (tE (fBin oEq (fVar 1) (fC (.int 0)))) (sSeq (sSet (gN 2) (fCall F_l_digit (aCons (fVar 0) (aCons (fC (.int 800)) aNil))))
    (sRet (fBin oMul (fVar 2) (fInt (fBin oLt (fVar 2) (fC (.int 401))))))) sNil)
    (sSeq (sIf (tE (fBin oEq (fVar 1) (fC (.int 1)))) (sRet (fIx (aCons (fC (.int 0)) (aCons (fC (.int 0)) (aCons (fC (.int 0)) (aCons (fC (.int 0)) (aCons (fC (.int 0)) (aCons (fC (.int 1)) (aCons (fC (.int 1)) (aCons (fC (.int 2)) (aCons (fC (.int 3)) aNil))))))))) (fCall F_l_digit (aCons (fVar 0) (aCons (fC (.int 9)) aNil))))) sNil)
    (sRet (fIx (aCons (fC (.int 0)) (aCons (fC (.int 0)) (aCons (fC (.int 0)) (aCons (fC (.int 1)) aNil)))) (fCall F_l_digit (aCons (fVar 0) (aCons (fC (.int 4)) aNil)))))))
noncomputable def F_l_bar : Fn := mkFn 2 3 (sSeq (sSet (gN 2) (fCall F_l_digit (aCons (fVar 0) (aCons (fC (.int 6)) aNil))))
    (sSeq (sIf (tE (fBin oLt (fVar 2) (fC (.int 2)))) (sRet (fVar 1)) sNil)
    (sSeq (sIf (tE (fBin oEq (fVar 2) (fC (.int 2)))) (sRet (fBin oAdd (fBin oSub (fVar 1) (fC (.int 3))) (fCall F_l_digit (aCons (fVar 0) (aCons (fC (.int 7)) aNil))))) sNil)
    (sSeq (sIf (tE (fBin oLt (fVar 2) (fC (.int 5)))) (sRet (fBin oSub (fCall F_l_digit (aCons (fVar 0) (aCons (fBin oAdd (fBin oMul (fC (.int 2)) (fVar 1)) (fC (.int 5))) aNil))) (fC (.int 2)))) sNil)
    (sRet (fBin oAdd (fBin oSub (fCall F_l_digit (aCons (fVar 0) (aCons (fBin oSub (fBin oMul (fC (.int 2)) (fBin oPow (fC (.int 10)) (fC (.int 60)))) (fC (.int 1))) aNil))) (fBin oPow (fC (.int 10)) (fC (.int 60)))) (fC (.int 1))))))))
noncomputable abbrev B0_l_web : SF := (sSeq (sExp (fApp (fVar 9) (fCall F_l_bar (aCons (fAt (fVar 3) (fVar 5)) (aCons (fSum (lComp 2 [] (iSeq (fAt (fVar 4) (fVar 5))) (gT [0, 1]) [] (fVar 1))) aNil)))))
    (sExp (fApp (fVar 10) (fIx (aCons (fC .non) (aCons (fC .non) (aCons (fC .non) (aCons (fC .non) (aCons (fC .non) (aCons (fC (.int 0)) (aCons (fC (.int 1)) aNil))))))) (fCall F_l_digit (aCons (fAt (fVar 3) (fVar 5)) (aCons (fC (.int 7)) aNil)))))))
noncomputable abbrev B2_l_web : SF := (sSeq (sSet (gN 8) (fCall F_l_weight (aCons (fAt (fVar 3) (fVar 5)) (aCons (fVar 6) aNil))))
    (sIf (tE (fBin oGt (fVar 8) (fC (.int 0)))) (sSeq (sExp (fApp (fAt (fVar 4) (fVar 5)) (fTup (aCons (fVar 7) (aCons (fVar 8) aNil)))))
    (sExp (fApp (fAt (fVar 4) (fVar 7)) (fTup (aCons (fVar 5) (aCons (fVar 8) aNil)))))) sNil))
noncomputable abbrev B1_l_web : SF := (sSeq (sSet (gN 6) (fCall F_l_digit (aCons (fAt (fVar 3) (fVar 5)) (aCons (fC (.int 3)) aNil))))
    (sFor (iRange (fVar 5)) (gN 7) B2_l_web))
noncomputable def F_l_web : Fn := mkFn 1 11 (sSeq (sSet (gN 1) (fNew (aCons (fBin oDiv (fCall F_l_cell (aCons (fVar 0) (aCons (fC (.int 0)) aNil))) (fC (.int 2))) aNil)))
    (sSeq (sSet (gN 2) (fBin oAdd (fC (.int 1)) (fCall F_l_digit (aCons (fVar 1) (aCons (fIx (aCons (fC (.int 7)) (aCons (fC (.int 7)) (aCons (fC (.int 12)) (aCons (fC (.int 30)) aNil)))) (fCall F_l_digit (aCons (fVar 1) (aCons (fC (.int 4)) aNil)))) aNil)))))
    (sSeq (sSet (gN 3) (fNew (lComp 1 [0] (iRange (fVar 2)) (gN 0) [] (fNew (aCons (fCall F_l_cell (aCons (fVar 1) (aCons (fBin oAdd (fC (.int 1)) (fVar 0)) aNil))) aNil)))))
    (sSeq (sSet (gN 4) (fNew (lComp 1 [] (iRange (fVar 2)) (gN 0) [] (fNew aNil))))
    (sSeq (sFor (iRange (fVar 2)) (gN 5) B1_l_web)
    (sSeq (sSet (gN 9) (fNew aNil))
    (sSeq (sSet (gN 10) (fNew aNil))
    (sSeq (sFor (iRange (fVar 2)) (gN 5) B0_l_web)
    (sRet (fTup (aCons (fTup (aCons (fTupL (lComp 1 [] (iSeq (fVar 4)) (gN 0) [] (fTupL (lSortR (fVar 0))))) (aCons (fTupL (lOf (fVar 9))) (aCons (fTupL (lOf (fVar 10))) aNil)))) (aCons (fVar 3) (aCons (fVar 1) aNil)))))))))))))
noncomputable abbrev B0_l_stand : SF := (sSeq (sSet (gN 4) (fCall F_l_digit (aCons (fAt (fVar 1) (fVar 3)) (aCons (fC (.int 2)) aNil))))
    (sSeq (sIf (tE (fBin oIsNotN (fAt (fAt (fVar 0) (fC (.int 2))) (fVar 3)) (fC .non))) (sSet (gN 4) (fAt (fAt (fVar 0) (fC (.int 2))) (fVar 3))) sNil)
    (sExp (fApp (fVar 2) (fVar 4)))))
noncomputable def F_l_stand : Fn := mkFn 2 5 (sSeq (sSet (gN 2) (fNew aNil))
    (sSeq (sFor (iRange (fLen (lOf (fVar 1)))) (gN 3) B0_l_stand)
    (sRet (fTupL (lOf (fVar 2))))))
noncomputable abbrev B0_l_turn : SF := (sSeq (sSet (gN 4) (fBin oMul (fC (.int 2)) (fSum (lComp 2 [1] (iSeq (fAt (fAt (fVar 0) (fC (.int 0))) (fVar 3))) (gT [0, 1]) [(tE (fBin oEq (fAt (fVar 2) (fVar 0)) (fC (.int 1))))] (fVar 1)))))
    (sSeq (sSet (gN 5) (fAt (fVar 1) (fVar 3)))
    (sSeq (sIf (tE (fBin oIsNotN (fAt (fAt (fVar 0) (fC (.int 2))) (fVar 3)) (fC .non))) (sSet (gN 5) (fAt (fAt (fVar 0) (fC (.int 2))) (fVar 3))) (sIf (tE (fBin oNe (fVar 4) (fAt (fAt (fVar 0) (fC (.int 1))) (fVar 3)))) (sSet (gN 5) (fInt (fBin oGt (fVar 4) (fAt (fAt (fVar 0) (fC (.int 1))) (fVar 3))))) sNil))
    (sExp (fApp (fVar 2) (fVar 5))))))
noncomputable def F_l_turn : Fn := mkFn 2 6 (sSeq (sSet (gN 2) (fNew aNil))
    (sSeq (sFor (iRange (fLen (lOf (fVar 1)))) (gN 3) B0_l_turn)
    (sRet (fTupL (lOf (fVar 2))))))
noncomputable def F_l_turns : Fn := mkFn 2 3 (sSeq (sSet (gN 2) (fCall F_l_digit (aCons (fVar 0) (aCons (fC (.int 4)) aNil))))
    (sSeq (sIf (tAnd (tE (fBin oEq (fVar 2) (fC (.int 3)))) (tE (fBin oLt (fVar 1) (fC (.int 5))))) (sRet (fBin oSub (fC (.int 400)) (fCall F_l_digit (aCons (fVar 0) (aCons (fC (.int 3)) aNil))))) sNil)
    (sSeq (sIf (tAnd (tE (fBin oEq (fVar 2) (fC (.int 2)))) (tE (fBin oLt (fVar 1) (fC (.int 13))))) (sRet (fCall F_l_digit (aCons (fVar 0) (aCons (fC (.int 61)) aNil)))) sNil)
    (sRet (fCall F_l_digit (aCons (fVar 0) (aCons (fC (.int 7)) aNil)))))))
noncomputable abbrev B1_l_are_stands : SF := (sIf (tOr (tNot (tE (fIsTy .int (fVar 3)))) (tE (fIsTy .bool (fVar 3)))) (sRet (fC (.bl false))) sNil)
noncomputable abbrev B0_l_are_stands : SF := (sSeq (sIf (tNot (tE (fIsTy .tuple (fVar 2)))) (sRet (fC (.bl false))) sNil)
    (sFor (iSeq (fVar 2)) (gN 3) B1_l_are_stands))
noncomputable def F_l_are_stands : Fn := mkFn 2 4 (sSeq (sIf (tOr (tNot (tE (fIsTy .list (fVar 0)))) (tE (fBin oNe (fVar 0) (fVar 1)))) (sRet (fC (.bl false))) sNil)
    (sSeq (sFor (iSeq (fVar 0)) (gN 2) B0_l_are_stands)
    (sRet (fC (.bl true)))))
noncomputable abbrev B0_l_none : SF := (sExp (fApp (fVar 4) (fBin oAddT (fBin oAddT (fSlice (fVar 1) pNo (pAt (fVar 3))) (fTup (aCons (fVar 5) aNil))) (fSlice (fVar 1) (pAt (fBin oAdd (fVar 3) (fC (.int 1)))) pNo))))
noncomputable def F_l_none : Fn := mkFn 3 8 (sSeq (sSet (gN 3) (fBin oMod (fVar 2) (fLen (lOf (fVar 1)))))
    (sSeq (sSet (gN 4) (fNew (aCons (fNew (lOf (fVar 1))) (aCons (fBin oAdd (fVar 1) (fTup (aCons (fC (.int 0)) aNil))) (aCons (fSlice (fVar 1) pNo (pAt (fC (.int (-1))))) (aCons (fC .non) (aCons (fC (.int 1)) (aCons (fC (.str [48, 49])) (aCons (fTup aNil) (aCons (fNew (aCons (fVar 1) aNil)) (aCons (fBin oAdd (fVar 1) (fVar 1)) aNil)))))))))))
    (sSeq (sFor (iNew (aCons (fC (.int 2)) (aCons (fC (.int (-1))) (aCons (fC (.bl true)) (aCons (fC (.bl false)) (aCons (fC .non) (aCons (fC (.str [49])) (aCons (fBin oPow (fC (.int 10)) (fC (.int 59))) (aCons (fTup (aCons (fC (.int 0)) aNil)) aNil))))))))) (gN 5) B0_l_none)
    (sSeq (sSet (gN 6) (fNew (lComp 1 [0] (iRange (fLen (lOf (fVar 1)))) (gN 0) [(tE (fBin oIsNotN (fAt (fAt (fVar 1) (fC (.int 2))) (fVar 0)) (fC .non)))] (fVar 0))))
    (sSeq (sIf (tE (fBin oNe (fVar 6) (fNew aNil))) (sSeq (sSet (gN 7) (fAt (fVar 6) (fBin oMod (fBin oDiv (fVar 2) (fC (.int 31))) (fLen (lOf (fVar 6))))))
    (sSet (gN 4) (fNew (lCatE (fVar 4) (fNew (lRep (aCons (fBin oAddT (fBin oAddT (fSlice (fVar 1) pNo (pAt (fVar 7))) (fTup (aCons (fBin oSub (fC (.int 1)) (fAt (fVar 1) (fVar 7))) aNil))) (fSlice (fVar 1) (pAt (fBin oAdd (fVar 7) (fC (.int 1)))) pNo)) aNil) (fC (.int 9)))))))) sNil)
    (sRet (fAt (fVar 4) (fBin oMod (fBin oDiv (fVar 2) (fC (.int 997))) (fLen (lOf (fVar 4)))))))))))
noncomputable def FY_check_stand : Fn := mkFn 2 2 (sIfX (tNot (tE (fCall F_fits (aCons (fVar 0) (aCons (fVar 1) aNil))))) (sRaise "NoStand") sNil)
noncomputable def FY_history : Fn := mkFn 3 5 (sSeq (sExp (fCall FY_check_stand (fPl (aCons (fVar 0) (aCons (fVar 1) aNil)))))
    (sSeq (sIfX (tE (fBin oGt (fVar 2) (fC (.int 400)))) (sRaise "TooLong") sNil)
    (sSeq (sPl (sSet (gN 3) (fNew (aCons (fVar 1) aNil))))
    (sSeq (sPl (sFor (iRange (fVar 2)) (gN 4) B0_history))
    (sPl (sRet (fVar 3)))))))
noncomputable def FY_ended : Fn := mkFn 2 5 (sSeq (sExp (fCall FY_check_stand (fPl (aCons (fVar 0) (aCons (fVar 1) aNil)))))
    (sSeq (sPl (sSet (gN 2) (fNew (aCons (fVar 1) (aCons (fCall F_turn_at (aCons (fVar 0) (aCons (fVar 1) aNil))) aNil)))))
    (sSeq (sPl (sSet (gN 3) (fCall F_turn_at (aCons (fVar 0) (aCons (fAt (fVar 2) (fC (.int 1))) aNil)))))
    (sSeq (sPl (sWhile (tE (fBin oNe (fVar 3) (fAt (fVar 2) (fC (.int (-2)))))) B0_ended))
    (sSeq (sPl (sSet (gN 4) (fIf (tE (fBin oEq (fAt (fVar 2) (fC (.int (-1)))) (fAt (fVar 2) (fC (.int (-2)))))) (fC (.str [114, 101, 115, 116])) (fC (.str [112, 97, 105, 114])))))
    (sPl (sRet (fTup (aCons (fBin oSub (fLen (lOf (fVar 2))) (fC (.int 2))) (aCons (fVar 4) (aCons (fVar 2) aNil)))))))))))
noncomputable def FY_sums : Fn := mkFn 2 3 (sSeq (sForX (iSeq (fVar 1)) (gN 2) (sExp (fCall FY_check_stand (fPl (aCons (fVar 0) (aCons (fVar 2) aNil))))))
    (sPl (sRet (fNew (lComp 1 [0, 1] (iRange (fBin oSub (fLen (lOf (fVar 1))) (fC (.int 1)))) (gN 0) [] (fCall F_sum_at (aCons (fVar 1) (aCons (fAt (fVar 2) (fVar 0)) (aCons (fAt (fVar 2) (fBin oAdd (fVar 0) (fC (.int 1)))) aNil)))))))))
noncomputable def F_l_too_long : Fn := mkFn 3 6 (sRef 3 (sExp (fCall FY_history (fPl (aCons (fVar 0) (aCons (fVar 1) (aCons (fVar 2) aNil)))))) "TooLong")
noncomputable def F_l_refused : Fn := mkFn 4 7 (sRef 4 (sIfX (tE (fBin oEq (fVar 3) (fC (.int 0)))) (sExp (fCall FY_history (fPl (aCons (fVar 0) (aCons (fVar 2) (aCons (fIx (aCons (fC (.int 2)) (aCons (fC (.int 401)) aNil)) (fBin oMod (fLen (lOf (fVar 1))) (fC (.int 2)))) aNil)))))) (sIfX (tE (fBin oEq (fVar 3) (fC (.int 1)))) (sExp (fCall FY_ended (fPl (aCons (fVar 0) (aCons (fVar 2) aNil))))) (sIfX (tE (fBin oEq (fVar 3) (fC (.int 2)))) (sExp (fCall FY_sums (fPl (aCons (fVar 0) (aCons (fNew (aCons (fVar 1) (aCons (fVar 2) aNil))) aNil))))) (sExp (fCall FY_sums (fPl (aCons (fVar 0) (aCons (fNew (aCons (fVar 2) (aCons (fVar 1) (aCons (fVar 1) aNil)))) aNil)))))))) "NoStand")
noncomputable abbrev L0_law : SF := (sSet (gT [1, 2, 3]) (fCall F_l_web (aCons (fVar 0) aNil)))
noncomputable abbrev L1_law : SF := (sSet (gN 4) (fCall F_l_stand (aCons (fVar 1) (aCons (fVar 2) aNil))))
noncomputable abbrev L2_law : SF := (sSet (gN 5) (fCall F_l_turns (aCons (fVar 3) (aCons (fLen (lOf (fVar 4))) aNil))))
noncomputable abbrev L3_law : SF := (sSet (gN 6) (fNew (aCons (fVar 4) aNil)))
noncomputable abbrev B0_law : SF := (sExp (fApp (fVar 6) (fCall F_l_turn (aCons (fVar 1) (aCons (fAt (fVar 6) (fC (.int (-1)))) aNil)))))
noncomputable abbrev L4_law : SF := (sFor (iRange (fVar 5)) (gN 7) B0_law)
noncomputable abbrev L5_law : SF := (sSet (gN 8) (fCall F_history (aCons (fVar 1) (aCons (fVar 4) (aCons (fVar 5) aNil)))))
noncomputable abbrev L6_law : SF := (sIf (tNot (tE (fCall F_l_are_stands (aCons (fVar 8) (aCons (fVar 6) aNil))))) (sRet (fC (.bl false))) sNil)
noncomputable abbrev L7_law : SF := (sExp (fClear (fVar 8)))
noncomputable abbrev B1_law : SF := (sIf (tNot (tE (fCall F_l_refused (aCons (fVar 1) (aCons (fVar 4) (aCons (fCall F_l_none (aCons (fVar 1) (aCons (fVar 4) (aCons (fCall F_l_wide (aCons (fVar 0) (aCons (fBin oAdd (fC (.int 40)) (fVar 9)) aNil))) aNil)))) (aCons (fVar 9) aNil))))))) (sRet (fC (.bl false))) sNil)
noncomputable abbrev L8_law : SF := (sFor (iRange (fC (.int 4))) (gN 9) B1_law)
noncomputable abbrev L9_law : SF := (sIf (tNot (tE (fCall F_l_too_long (aCons (fVar 1) (aCons (fVar 4) (aCons (fIx (aCons (fC (.int 401)) (aCons (fBin oAdd (fC (.int 402)) (fCall F_l_digit (aCons (fVar 3) (aCons (fBin oPow (fC (.int 10)) (fC (.int 50))) aNil)))) aNil)) (fCall F_l_digit (aCons (fVar 3) (aCons (fC (.int 2)) aNil)))) aNil)))))) (sRet (fC (.bl false))) sNil)
noncomputable abbrev L10_law : SF := (sRet (fT (tAnd (tE (fCall F_l_are_stands (aCons (fCall F_history (aCons (fVar 1) (aCons (fVar 4) (aCons (fVar 5) aNil)))) (aCons (fVar 6) aNil)))) (tE (fBin oEq (fCall F_history (aCons (fVar 1) (aCons (fVar 4) (aCons (fC (.int 0)) aNil)))) (fNew (aCons (fVar 4) aNil)))))))
noncomputable def F_law : Fn := mkFn 1 10 (sSeq L0_law (sSeq L1_law (sSeq L2_law (sSeq L3_law (sSeq L4_law (sSeq L5_law (sSeq L6_law (sSeq L7_law (sSeq L8_law (sSeq L9_law L10_law))))))))))
end Fm
set_option linter.all false
namespace Fm
theorem sml_of {x : Int} (h0 : 0 ≤ x) (h1 : x < 4611686018427387904) : sml x = true := by
  simp only [sml, Bool.and_eq_true, decide_eq_true_eq]; omega
theorem range_at {n i : Nat} {x : D} (hx : ((List.range n).map fun k : Nat => D.int k)[i]? = some x) : i < n ∧ x = .int (i : Nat) := by
  have hi : i < n := by
    have := (List.getElem?_eq_some_iff.mp hx).1
    simpa using this
  exact ⟨hi, by simpa [hi, List.getElem?_eq_getElem] using hx.symm⟩
theorem at_getD {α : Type} (f : α → D) (d : α) {l : List α} {i : Nat} (h : i < l.length) : atI (l.map f) (i : Int) = some (f (l.getD i d)) := atI_nat (by rw [List.getElem?_map, List.getElem?_eq_getElem h, List.getD_eq_getElem?_getD, List.getElem?_eq_getElem h]; rfl)
theorem pick {α : Type} (f : α → D) (l : List α) (x m : Int) (hm : m = l.length) (h : 0 < m) : ∃ v ∈ l, atI (l.map f) (x % m) = some (f v) := by
  have h1 := Int.emod_nonneg x (Int.ne_of_gt h)
  have h2 := Int.emod_lt_of_pos x h
  have h3 : (x % m).toNat < l.length := by omega
  refine ⟨l[(x % m).toNat], List.getElem_mem h3, ?_⟩
  have := at_map (f := f) h3
  rwa [Int.toNat_of_nonneg h1] at this
theorem sml_mod (x : Int) {m c : Int} (h0 : 0 < m) (h1 : m < 4611686018427387000) (c0 : 0 ≤ c) (c1 : c < 100) : sml (x % m + c) = true :=
  sml_of (Int.add_nonneg (Int.emod_nonneg x (Int.ne_of_gt h0)) c0) (by have := Int.emod_lt_of_pos x h0; omega)
noncomputable abbrev XW (L : D) (k sd fv : Int) (j b : Option D) : Sd := [some L, some (.int k), some (.int sd), some (.int fv), j, b]
theorem b5l (L : D) (k sd fv j : Int) (b : Option D) (h0 : Hd) (e3 : sml j = true) : ∃ fv' n, B0_l_wide (XW L k sd fv (some (.int j)) b) h0 = .nx (XW L k sd fv' (some (.int j)) (some (.int n))) h0 := by
  have q1 : ∃ n1, sml (n1 + 5) = true ∧ sSet (gN 5) (fBin oMod (fBin oMul (fBin oAdd (fBin oAdd (fBin oAdd (fVar 2) (fBin oMul (fC (.int 31)) (fVar 1))) (fBin oMul (fVar 4) (fVar 4))) (fC (.int 7))) (fC (.int 48271))) (fC (.int 2147483629))) (XW L k sd fv (some (.int j)) b) h0 = .nx (XW L k sd fv (some (.int j)) (some (.int n1))) h0 :=
    ⟨(sd + 31 * k + j * j + 7) * 48271 % 2147483629, sml_mod _ (by decide) (by decide) (by decide) (by decide), ev_set (ev_bin (ev_bin (ev_bin (ev_bin (ev_bin rfl (ev_bin rfl rfl (ev_mul1 (by decide))) rfl) (ev_bin rfl rfl (ev_mul1 e3)) rfl) rfl rfl) rfl (ev_mul2 (by decide))) rfl (ev_mod (by decide)))⟩
  obtain ⟨n1, s1, q1⟩ := q1
  have q2 : sSet (gN 5) (fBin oMod (fBin oMul (fBin oAdd (fVar 5) (fC (.int 5))) (fBin oAdd (fBin oAdd (fVar 5) (fVar 4)) (fC (.int 3)))) (fC (.int 2147483587))) (XW L k sd fv (some (.int j)) (some (.int n1))) h0 = .nx (XW L k sd fv (some (.int j)) (some (.int ((n1 + 5) * (n1 + j + 3) % 2147483587)))) h0 :=
    ev_set (ev_bin (ev_bin (ev_bin rfl rfl rfl) (ev_bin (ev_bin rfl rfl rfl) rfl rfl) (ev_mul1 s1)) rfl (ev_mod (by decide)))
  obtain ⟨n2, e2⟩ : ∃ n2, n2 = (n1 + 5) * (n1 + j + 3) % 2147483587 := ⟨_, rfl⟩
  rw [← e2] at q2
  have q3 : ∃ n3, sml n3 = true ∧ sSet (gN 5) (fBin oMod (fBin oMul (fBin oAdd (fVar 5) (fVar 1)) (fC (.int 69621))) (fC (.int 2147483563))) (XW L k sd fv (some (.int j)) (some (.int n2))) h0 = .nx (XW L k sd fv (some (.int j)) (some (.int n3))) h0 :=
    ⟨(n2 + k) * 69621 % 2147483563, by have := sml_mod ((n2 + k) * 69621) (m := 2147483563) (c := 0) (by decide) (by decide) (by decide) (by decide); rwa [Int.add_zero] at this, ev_set (ev_bin (ev_bin (ev_bin rfl rfl rfl) rfl (ev_mul2 (by decide))) rfl (ev_mod (by decide)))⟩
  obtain ⟨n3, s3, q3⟩ := q3
  have q4 : sSet (gN 3) (fBin oAdd (fBin oMul (fVar 3) (fC (.int 2147483563))) (fBin oMod (fBin oMul (fVar 5) (fBin oAdd (fVar 5) (fC (.int 11)))) (fC (.int 2147483549)))) (XW L k sd fv (some (.int j)) (some (.int n3))) h0 = .nx (XW L k sd (fv * 2147483563 + n3 * (n3 + 11) % 2147483549) (some (.int j)) (some (.int n3))) h0 :=
    ev_set (ev_bin (ev_bin rfl rfl (ev_mul2 (by decide))) (ev_bin (ev_bin rfl (ev_bin rfl rfl rfl) (ev_mul1 s3)) rfl (ev_mod (by decide))) rfl)
  exact ⟨_, _, (sq_nx q1).trans ((sq_nx q2).trans ((sq_nx q3).trans q4))⟩
theorem wide_ok (ns : List Int) (k : Int) (hk : 0 ≤ k ∧ k ≤ 1000) (h : Hd) : ∃ v, F_l_wide [.lit (ns.map .int), .int k] h = .ok (.int v) h := by
  obtain ⟨L, hL⟩ : ∃ L : D, L = .lit (ns.map .int) := ⟨_, rfl⟩
  rw [← hL]
  have ln : fLen (lOf (fVar 0)) [some L, some (.int k), some (.int 11), none, none, none] h = .ok (.int (ns.length : Nat)) h := by rw [hL]; exact (ev_len (ev_lof rfl rfl)).trans (by rw [List.length_map])
  have sd : ∃ sd, sIf (tE (fBin oGt (fLen (lOf (fVar 0))) (fC (.int 0)))) (sSet (gN 2) (fBin oMod (fAt (fVar 0) (fBin oMod (fVar 1) (fLen (lOf (fVar 0))))) (fC (.int 2147483647)))) sNil [some L, some (.int k), some (.int 11), none, none, none] h = .nx [some L, some (.int k), some (.int sd), none, none, none] h := by
    by_cases e : (0 : Int) < (ns.length : Nat)
    · obtain ⟨v, _, q⟩ := pick D.int ns k ns.length rfl e
      exact ⟨_, (ev_t (ev_b (ev_bin ln rfl (ev_gtt e)))).trans (ev_set (ev_bin (ev_at rfl (ev_bin rfl ln (ev_mod e)) (by rw [hL]; rfl) q) rfl (ev_mod (by decide))))⟩
    · exact ⟨11, ev_f (ev_b (ev_bin ln rfl (ev_gtf e)))⟩
  obtain ⟨sd, s2⟩ := sd
  obtain ⟨σ', h', h1, h2, fv, a, b, h3⟩ := forL_next (P := fun _ σ h' => h' = h ∧ ∃ fv a b, σ = XW L k sd fv a b) (g := none) (k := 0)
      (all := (List.range 9).map fun k : Nat => D.int k) (fun _ _ _ _ => trivial)
      (xs := (List.range 9).map fun k : Nat => D.int k) (tg := gN 4) (σ := XW L k sd 0 none none) (h := h)
      (b := B0_l_wide) (by
      rintro i x σ h0 hx ⟨rfl, fv, a, b, rfl⟩
      obtain ⟨hi, rfl⟩ := range_at hx
      have j0 : (0 : Int) ≤ (i : Int) := Int.natCast_nonneg i
      have j1 : (i : Int) < 4611686018427387904 := by omega
      clear hx hi
      generalize ((i : Nat) : Int) = j at j0 j1 ⊢
      obtain ⟨fv', n', q⟩ := b5l L k sd fv j b h0 (sml_of j0 j1)
      exact ⟨_, rfl, _, _, q, rfl, _, _, _, rfl⟩) ⟨rfl, _, _, _, rfl⟩
  rw [h2, h3] at h1
  exact ⟨fv, (fn_rt rfl rfl ((sq_nx (ev_set rfl)).trans ((sq_nx s2).trans ((sq_nx (ev_set rfl)).trans ((sq_nx (ev_for (ev_range (n := 9) rfl (by decide)) h1)).trans (ev_ret rfl)))))).trans letGo_self⟩
theorem cell_ok (ns : List Int) (k : Nat) (hk : k ≤ 1000) (h : Hd) : ∃ v, F_l_cell [.lit (ns.map .int), .int k] h = .ok (.int v) h := by
  obtain ⟨v, hv⟩ := wide_ok ns k ⟨Int.natCast_nonneg k, Int.ofNat_le.mpr hk⟩ h
  have ln : fLen (lOf (fVar 0)) [some (.lit (ns.map .int)), some (.int k)] h = .ok (.int (ns.length : Nat)) h := (ev_len (ev_lof rfl rfl)).trans (by rw [List.length_map])
  by_cases e : k < ns.length
  · have p0 := at_getD D.int 0 (Nat.lt_of_le_of_lt (Nat.zero_le k) e)
    have t1 := ev_b (ev_bin (a := fVar 1) rfl ln (ev_ltt (Int.ofNat_lt.mpr e)))
    by_cases ev : ns.getD 0 0 % 2 = 0
    · exact ⟨_, (fn_rt rfl rfl (sq_rt ((ev_t (ev_and t1 (ev_b (ev_bin (ev_bin (ev_at rfl rfl rfl p0) rfl (ev_mod (by decide))) rfl (ev_eqt ev))))).trans (ev_ret (ev_at rfl rfl rfl (at_getD D.int 0 e)))))).trans letGo_self⟩
    · exact ⟨v, (fn_rt rfl rfl ((sq_nx (ev_f (ev_and t1 (ev_b (ev_bin (ev_bin (ev_at rfl rfl rfl p0) rfl (ev_mod (by decide))) rfl (ev_eqf ev)))))).trans (ev_ret (ev_call (ev_2 rfl rfl) hv)))).trans letGo_self⟩
  · exact ⟨v, (fn_rt rfl rfl ((sq_nx (ev_f (ev_andf (ev_b (ev_bin rfl ln (ev_ltf fun z => e (Int.ofNat_lt.mp z))))))).trans (ev_ret (ev_call (ev_2 rfl rfl) hv)))).trans letGo_self⟩
theorem digit_ok {h : Hd} {n : Nat} {x m : Int} (hn : h[n]? = some (.lst [.int x])) (hm : 0 < m) (hm2 : m < 2 ^ 250) :
    F_l_digit [.ref n, .int m] h = .ok (.int (x % m)) (h.set n (.lst [.int (x / m)])) := by
  have a0 : ∀ c, fAt (fVar 0) (fC (.int 0)) [some (.ref n), some (.int m), c] h = .ok (.int x) h := fun c => ev_at rfl rfl (ev_seq hn) rfl
  exact (fn_rt (σ := [some (.ref n), some (.int m), none]) rfl rfl ((sq_nx (ev_set (ev_bin (a0 _) rfl (ev_mod hm)))).trans ((sq_nx (ev_put (k := 0) (ev_bin (a0 _) rfl (ev_div hm hm2)) rfl rfl hn rfl)).trans (ev_ret rfl)))).trans letGo_set
theorem weight_ok {h : Hd} {n : Nat} {x s : Int} (hn : h[n]? = some (.lst [.int x])) : ∃ v y, F_l_weight [.ref n, .int s] h = .ok (.int v) (h.set n (.lst [.int y])) ∧ 0 ≤ v ∧ v ≤ 400 := by
  have dg : ∀ {m : Int} {c : Option D}, 0 < m → m < 2 ^ 250 → fCall F_l_digit (aCons (fVar 0) (aCons (fC (.int m)) aNil)) [some (.ref n), some (.int s), c] h = .ok (.int (x % m)) (h.set n (.lst [.int (x / m)])) := fun h0 h1 => ev_call (ev_2 rfl rfl) (digit_ok hn h0 h1)
  by_cases e0 : s = 0
  · have b0 := Int.emod_nonneg x (show (800 : Int) ≠ 0 by decide)
    have b1 := Int.emod_lt_of_pos x (show (0 : Int) < 800 by decide)
    have e1 : sml (x % 800) = true := sml_of b0 (by omega)
    by_cases e2 : x % 800 < 401
    · exact ⟨x % 800 * 1, x / 800, (fn_rt rfl rfl (sq_rt ((ev_t (ev_b (ev_bin rfl rfl (ev_eqt e0)))).trans ((sq_nx (ev_set (dg (by decide) (by decide)))).trans (ev_ret (ev_bin rfl (ev_int (ev_bin rfl rfl (ev_ltt e2))) (ev_mul1 e1))))))).trans letGo_set, by omega, by omega⟩
    · exact ⟨x % 800 * 0, x / 800, (fn_rt rfl rfl (sq_rt ((ev_t (ev_b (ev_bin rfl rfl (ev_eqt e0)))).trans ((sq_nx (ev_set (dg (by decide) (by decide)))).trans (ev_ret (ev_bin rfl (ev_int (ev_bin rfl rfl (ev_ltf e2))) (ev_mul1 e1))))))).trans letGo_set, by omega, by omega⟩
  · have f0 := ev_f (a := sSeq (sSet (gN 2) (fCall F_l_digit (aCons (fVar 0) (aCons (fC (.int 800)) aNil)))) (sRet (fBin oMul (fVar 2) (fInt (fBin oLt (fVar 2) (fC (.int 401))))))) (b := sNil) (ev_b (ev_bin (a := fVar 1) (b := fC (.int 0)) (σ := [some (.ref n), some (.int s), none]) (h := h) rfl rfl (ev_eqf e0)))
    by_cases e1 : s = 1
    · obtain ⟨v, hv, q⟩ := pick D.int [0, 0, 0, 0, 0, 1, 1, 2, 3] x 9 rfl (by decide)
      refine ⟨v, x / 9, (fn_rt rfl rfl ((sq_nx f0).trans (sq_rt ((ev_t (ev_b (ev_bin rfl rfl (ev_eqt e1)))).trans (ev_ret (ev_ix (l := [0, 0, 0, 0, 0, 1, 1, 2, 3].map D.int) rfl (dg (by decide) (by decide)) q)))))).trans letGo_set, ?_⟩
      exact (show ∀ v ∈ [0, 0, 0, 0, 0, 1, 1, 2, 3], (0 : Int) ≤ v ∧ v ≤ 400 by decide) v hv
    · obtain ⟨v, hv, q⟩ := pick D.int [0, 0, 0, 1] x 4 rfl (by decide)
      refine ⟨v, x / 4, (fn_rt rfl rfl ((sq_nx f0).trans ((sq_nx (ev_f (ev_b (ev_bin rfl rfl (ev_eqf e1))))).trans (ev_ret (ev_ix (l := [0, 0, 0, 1].map D.int) rfl (dg (by decide) (by decide)) q))))).trans letGo_set, ?_⟩
      exact (show ∀ v ∈ [0, 0, 0, 1], (0 : Int) ≤ v ∧ v ≤ 400 by decide) v hv
theorem bar_ok {h : Hd} {n : Nat} {x t : Int} (hn : h[n]? = some (.lst [.int x])) (t0 : 0 ≤ t) (t1 : t ≤ 1000000) : ∃ v y, F_l_bar [.ref n, .int t] h = .ok (.int v) (h.set n (.lst [.int y])) := by
  have hlt : n < h.length := (List.getElem?_eq_some_iff.mp hn).1
  obtain ⟨h1, e1⟩ : ∃ h1, h1 = h.set n (.lst [.int (x / 6)]) := ⟨_, rfl⟩
  have hn2 : h1[n]? = some (.lst [.int (x / 6)]) := by rw [e1]; exact List.getElem?_set_self hlt
  obtain ⟨v, hv⟩ : ∃ v, v = x % 6 := ⟨_, rfl⟩
  have d1 := digit_ok hn (show (0 : Int) < 6 by decide) (by decide)
  rw [← hv, ← e1] at d1
  have dg : ∀ {m : Int} {e : EF}, 0 < m → m < 2 ^ 250 → e [some (.ref n), some (.int t), some (.int v)] h1 = .ok (.int m) h1 → fCall F_l_digit (aCons (fVar 0) (aCons e aNil)) [some (.ref n), some (.int t), some (.int v)] h1 = .ok (.int (x / 6 % m)) (h.set n (.lst [.int (x / 6 / m)])) := fun {m e} h0 hm q => by
    have := digit_ok hn2 h0 hm
    rw [e1, List.set_set, ← e1] at this
    exact ev_call (ev_2 rfl q) this
  have s1 : sSet (gN 2) (fCall F_l_digit (aCons (fVar 0) (aCons (fC (.int 6)) aNil))) [some (.ref n), some (.int t), none] h = .nx [some (.ref n), some (.int t), some (.int v)] h1 := ev_set (ev_call (ev_2 rfl rfl) d1)
  by_cases c0 : v < 2
  · refine ⟨t, x / 6, (fn_rt rfl rfl ((sq_nx s1).trans (sq_rt ((ev_t (ev_b (ev_bin rfl rfl (ev_ltt c0)))).trans (ev_ret rfl))))).trans ?_⟩
    rw [e1]; exact letGo_set
  · have s2 := ev_f (a := sRet (fVar 1)) (b := sNil) (ev_b (ev_bin (a := fVar 2) (b := fC (.int 2)) (σ := [some (.ref n), some (.int t), some (.int v)]) (h := h1) rfl rfl (ev_ltf c0)))
    by_cases c1 : v = 2
    · exact ⟨_, _, (fn_rt rfl rfl ((sq_nx s1).trans ((sq_nx s2).trans (sq_rt ((ev_t (ev_b (ev_bin rfl rfl (ev_eqt c1)))).trans (ev_ret (ev_bin (ev_bin rfl rfl rfl) (dg (m := 7) (by decide) (by decide) rfl) rfl))))))).trans letGo_set⟩
    · have s3 := ev_f (a := sRet (fBin oAdd (fBin oSub (fVar 1) (fC (.int 3))) (fCall F_l_digit (aCons (fVar 0) (aCons (fC (.int 7)) aNil))))) (b := sNil) (ev_b (ev_bin (a := fVar 2) (b := fC (.int 2)) (σ := [some (.ref n), some (.int t), some (.int v)]) (h := h1) rfl rfl (ev_eqf c1)))
      by_cases c2 : v < 5
      · exact ⟨_, _, (fn_rt rfl rfl ((sq_nx s1).trans ((sq_nx s2).trans ((sq_nx s3).trans (sq_rt ((ev_t (ev_b (ev_bin rfl rfl (ev_ltt c2)))).trans (ev_ret (ev_bin (dg (m := 2 * t + 5) (by omega) (Int.lt_of_le_of_lt (show 2 * t + 5 ≤ 2000005 by omega) (by decide)) (ev_bin (ev_bin rfl rfl (ev_mul1 (by decide))) rfl rfl)) rfl rfl)))))))).trans letGo_set⟩
      · have pw : ∀ (σ : Sd) (g : Hd), fBin oPow (fC (.int 10)) (fC (.int 60)) σ g = .ok (.int (10 ^ 60)) g := fun σ g => by
          have s10 : sml 10 = true := by decide
          exact ev_bin rfl rfl (if_pos (e := .bad) (show (decide ((0 : Int) ≤ 60) && decide ((60 : Int) ≤ 1000000) && sml 10) = true by rw [s10]; rfl))
        exact ⟨_, _, (fn_rt rfl rfl ((sq_nx s1).trans ((sq_nx s2).trans ((sq_nx s3).trans ((sq_nx (ev_f (ev_b (ev_bin rfl rfl (ev_ltf c2))))).trans (ev_ret (ev_bin (ev_bin (dg (m := 2 * 10 ^ 60 - 1) (by decide) (by decide) (ev_bin (ev_bin rfl (pw _ _) (ev_mul1 (by decide))) rfl rfl)) (pw _ _) rfl) rfl rfl))))))).trans letGo_set⟩
structure WS (n : Nat) (R : Nat → List (Nat × Int)) (h : Hd) : Prop where
  hd0 : ∃ x, h[0]? = some (.lst [.int x])
  st : ∀ i, i < n → ∃ y, h[1 + i]? = some (.lst [.int y])
  sts : h[n + 1]? = some (.lst ((List.range n).map fun i => .ref (1 + i)))
  ti : ∀ i, i < n → h[n + 2 + i]? = some (.lst ((R i).map encP))
  tis : h[2 * n + 2]? = some (.lst ((List.range n).map fun i => .ref (n + 2 + i)))
theorem ne_st {n i a : Nat} (hi : i < n) (ha : n + 1 ≤ a) : 1 + i ≠ a := by omega
theorem ne_lt {i a b : Nat} (h : a < b) : b + i ≠ a := by omega
theorem WS.setSt {n : Nat} {R : Nat → List (Nat × Int)} {h : Hd} (w : WS n R h) {i : Nat} (hi : i < n) (y : Int) : WS n R (h.set (1 + i) (.lst [.int y])) where
  hd0 := by obtain ⟨x, e⟩ := w.hd0; exact ⟨x, by rw [List.getElem?_set_ne (ne_lt Nat.one_pos)]; exact e⟩
  st := fun j hj => by
    obtain ⟨z, e⟩ := w.st j hj
    by_cases q : i = j
    · subst q
      have := (List.getElem?_eq_some_iff.mp e).1
      exact ⟨y, by rw [List.getElem?_set_self this]⟩
    · exact ⟨z, by rw [List.getElem?_set_ne fun z => q (Nat.add_left_cancel z)]; exact e⟩
  sts := by rw [List.getElem?_set_ne (ne_st hi (Nat.le_refl _))]; exact w.sts
  ti := fun j hj => by rw [List.getElem?_set_ne (ne_st hi (Nat.le_trans (Nat.le_succ _) (Nat.le_add_right _ _)))]; exact w.ti j hj
  tis := by rw [List.getElem?_set_ne (ne_st hi (by omega))]; exact w.tis
noncomputable def putR (R : Nat → List (Nat × Int)) (k : Nat) (p : Nat × Int) : Nat → List (Nat × Int) := fun i => if i = k then R i ++ [p] else R i
theorem WS.app {n : Nat} {R : Nat → List (Nat × Int)} {h : Hd} (w : WS n R h) {i : Nat} (hi : i < n) (p : Nat × Int) : WS n (putR R i p) (h.set (n + 2 + i) (.lst ((R i).map encP ++ [encP p]))) where
  hd0 := by obtain ⟨x, e⟩ := w.hd0; exact ⟨x, by rw [List.getElem?_set_ne (by omega)]; exact e⟩
  st := fun j hj => by obtain ⟨z, e⟩ := w.st j hj; exact ⟨z, by rw [List.getElem?_set_ne (by omega)]; exact e⟩
  sts := by rw [List.getElem?_set_ne (by omega)]; exact w.sts
  ti := fun j hj => by
    by_cases q : i = j
    · subst q
      have := (List.getElem?_eq_some_iff.mp (w.ti i hj)).1
      rw [List.getElem?_set_self this]
      simp [putR]
    · rw [List.getElem?_set_ne (by omega), w.ti j hj, putR, if_neg (by omega)]
  tis := by rw [List.getElem?_set_ne (by omega)]; exact w.tis
theorem WS.more {n : Nat} {R : Nat → List (Nat × Int)} {h : Hd} (w : WS n R h) (c : Hd) : WS n R (h ++ c) := by
  have k : ∀ {i : Nat} {x : Cell}, h[i]? = some x → (h ++ c)[i]? = some x := fun {i x} e => by
    rw [List.getElem?_append_left (List.getElem?_eq_some_iff.mp e).1]; exact e
  exact ⟨let ⟨x, e⟩ := w.hd0; ⟨x, k e⟩, fun i hi => let ⟨x, e⟩ := w.st i hi; ⟨x, k e⟩, k w.sts, fun i hi => k (w.ti i hi), k w.tis⟩
theorem WS.setO {n : Nat} {R : Nat → List (Nat × Int)} {h : Hd} (w : WS n R h) {a : Nat} (ha : 2 * n + 2 < a) (c : Cell) : WS n R (h.set a c) where
  hd0 := by obtain ⟨x, e⟩ := w.hd0; exact ⟨x, by rw [List.getElem?_set_ne (by omega)]; exact e⟩
  st := fun j hj => by obtain ⟨z, e⟩ := w.st j hj; exact ⟨z, by rw [List.getElem?_set_ne (by omega)]; exact e⟩
  sts := by rw [List.getElem?_set_ne (by omega)]; exact w.sts
  ti := fun j hj => by rw [List.getElem?_set_ne (by omega)]; exact w.ti j hj
  tis := by rw [List.getElem?_set_ne (by omega)]; exact w.tis
theorem keepSt {n i a : Nat} {h : Hd} {c x : Cell} (hi : i < n) (ha : 2 * n + 2 < a) (e : h[a]? = some c) : (h.set (1 + i) x)[a]? = some c := by rw [List.getElem?_set_ne (by omega)]; exact e
structure RowsOk (n : Nat) (c : Nat) (R : Nat → List (Nat × Int)) : Prop where
  ris : ∀ i, (R i).Pairwise fun p q => p.1 < q.1
  lt : ∀ i p, p ∈ R i → p.1 < n
  wt : ∀ i p, p ∈ R i → 1 ≤ p.2 ∧ p.2 ≤ 400
  len : ∀ i, (R i).length ≤ c
theorem mem_putR {R : Nat → List (Nat × Int)} {k i : Nat} {q p : Nat × Int} (h : p ∈ putR R k q i) : p ∈ R i ∨ p = q := by
  unfold putR at h
  split at h
  · simpa using h
  · exact .inl h
theorem putR_ris {R : Nat → List (Nat × Int)} {k : Nat} {q : Nat × Int} (h : ∀ i, (R i).Pairwise fun p q => p.1 < q.1) (hq : ∀ p ∈ R k, p.1 < q.1) (i : Nat) : (putR R k q i).Pairwise fun p q => p.1 < q.1 := by
  unfold putR
  split
  · rename_i e
    rw [List.pairwise_append]
    exact ⟨h i, by simp, fun a ha b hb => by simp at hb; subst hb; exact hq a (by rw [← e]; exact ha)⟩
  · exact h i
theorem RowsOk.put {n c : Nat} {R : Nat → List (Nat × Int)} (o : RowsOk n c R) {k j : Nat} (hk : k < n) (hj : j < n) (hjk : j ≠ k) (b1 : ∀ p ∈ R k, p.1 < j) (b2 : ∀ p ∈ R j, p.1 < k) {v : Int} (h1 : 1 ≤ v) (h2 : v ≤ 400) : RowsOk n (c + 2) (putR (putR R k (j, v)) j (k, v)) where
  ris := putR_ris (putR_ris o.ris b1) fun p hp => by
    rw [putR, if_neg hjk] at hp
    exact b2 p hp
  lt := fun i p hp => by
    rcases mem_putR hp with hp | rfl
    · rcases mem_putR hp with hp | rfl
      · exact o.lt _ _ hp
      · exact hj
    · exact hk
  wt := fun i p hp => by
    rcases mem_putR hp with hp | rfl
    · rcases mem_putR hp with hp | rfl
      · exact o.wt _ _ hp
      · exact ⟨h1, h2⟩
    · exact ⟨h1, h2⟩
  len := fun i => by
    have e : ∀ (R : Nat → List (Nat × Int)) k p, (putR R k p i).length ≤ (R i).length + 1 := fun R k p => by
      unfold putR
      split
      · rw [List.length_append]; exact Nat.le_refl _
      · exact Nat.le_succ _
    exact Nat.le_trans (e _ _ _) (Nat.succ_le_succ (Nat.le_trans (e _ _ _) (Nat.succ_le_succ (o.len i))))
theorem refs_at {a n i : Nat} (h : i < n) : atI ((List.range n).map fun i => D.ref (a + i)) (i : Int) = some (.ref (a + i)) := by
  refine atI_nat ?_
  simp [h]
structure Mid (k j : Nat) (R : Nat → List (Nat × Int)) : Prop where
  a : ∀ i, k < i → R i = []
  b : ∀ p ∈ R k, p.1 < j
  c : ∀ i, i < j → ∀ p ∈ R i, p.1 ≤ k
  d : ∀ i, j ≤ i → i < k → ∀ p ∈ R i, p.1 < k
theorem Mid.skip {k j : Nat} {R : Nat → List (Nat × Int)} (m : Mid k j R) (hj : j < k) : Mid k (j + 1) R :=
  ⟨m.a, fun p hp => Nat.lt_succ_of_lt (m.b p hp), fun i hi p hp => by
    by_cases e : i < j
    · exact m.c i e p hp
    · exact Nat.le_of_lt (m.d i (Nat.not_lt.mp e) (Nat.lt_of_le_of_lt (Nat.le_of_lt_succ hi) hj) p hp), fun i h1 h2 => m.d i (Nat.le_of_succ_le h1) h2⟩
theorem Mid.put {k j : Nat} {R : Nat → List (Nat × Int)} (m : Mid k j R) (hj : j < k) (v : Int) : Mid k (j + 1) (putR (putR R k (j, v)) j (k, v)) where
  a := fun i hi => by rw [putR, if_neg (Nat.ne_of_gt (Nat.lt_trans hj hi)), putR, if_neg (Nat.ne_of_gt hi)]; exact m.a i hi
  b := fun p hp => by
    rw [putR, if_neg (Nat.ne_of_gt hj)] at hp
    rcases mem_putR hp with hp | rfl
    · exact Nat.lt_succ_of_lt (m.b p hp)
    · exact Nat.lt_succ_self _
  c := fun i hi p hp => by
    rcases mem_putR hp with hp | rfl
    · rw [putR, if_neg (Nat.ne_of_lt (Nat.lt_of_le_of_lt (Nat.le_of_lt_succ hi) hj))] at hp
      by_cases e : i < j
      · exact m.c i e p hp
      · exact Nat.le_of_lt (m.d i (Nat.not_lt.mp e) (Nat.lt_of_le_of_lt (Nat.le_of_lt_succ hi) hj) p hp)
    · exact Nat.le_refl _
  d := fun i h1 h2 p hp => by
    rw [putR, if_neg (Nat.ne_of_gt h1), putR, if_neg (Nat.ne_of_lt h2)] at hp
    exact m.d i (Nat.le_of_succ_le h1) h2 p hp
noncomputable abbrev X10w (lit : D) (n : Nat) (a b c d e f : Option D) : Sd := [some lit, some (.ref 0), some (.int n), some (.ref (n + 1)), some (.ref (2 * n + 2)), a, b, c, d, e, f]
inductive InP (n k : Nat) (lit : D) (sort : Int) (c L i : Nat) : Sd → Hd → Prop
  | mk (R : Nat → List (Nat × Int)) (a b : Option D) (h : Hd) (w : WS n R h) (o : RowsOk n (c + 2 * i) R) (m : Mid k i R) (l : h.length = L) : InP n k lit sort c L i (X10w lit n (some (.int k)) (some (.int sort)) a b none none) h
theorem RowsOk.le {n c d : Nat} {R : Nat → List (Nat × Int)} (o : RowsOk n c R) (h : c ≤ d) : RowsOk n d R := ⟨o.ris, o.lt, o.wt, fun j => Nat.le_trans (o.len j) h⟩
theorem inner_ok {n k : Nat} {lit : D} {sort : Int} (hk : k < n) {c L : Nat} (hc : c + 2 * k ≤ 100000) {σ : Sd} {h : Hd} (w : InP n k lit sort c L 0 σ h) :
    ∃ σ' h', forL none ((List.range k).map fun k : Nat => D.int k) (gN 7) B2_l_web ((List.range k).map fun k : Nat => D.int k) σ h = .nx σ' h' ∧ InP n k lit sort c L k σ' h' := by
  have f := forL_next (P := InP n k lit sort c L) (g := none) (k := 0) (all := (List.range k).map fun k : Nat => D.int k) (fun _ _ _ _ => trivial) (xs := (List.range k).map fun k : Nat => D.int k) (tg := gN 7) (b := B2_l_web) (σ := σ) (h := h) (by
      intro i x σ h0 hx ip
      obtain ⟨hi, rfl⟩ := range_at hx
      rw [Nat.zero_add] at ip ⊢
      cases ip with
      | mk R a b _ w o mm hL =>
      refine ⟨_, rfl, ?_⟩
      obtain ⟨y, ey⟩ := w.st k hk
      obtain ⟨v, y', ev, v0, v1⟩ := weight_ok (s := sort) ey
      have w1 := w.setSt hk y'
      have hin : i < n := Nat.lt_trans hi hk
      have le : c + 2 * i < SZ := Nat.lt_of_le_of_lt (Nat.le_trans (Nat.add_le_add_left (Nat.mul_le_mul_left 2 (Nat.le_of_lt hi)) c) hc) (by decide)
      have t0 : sSet (gN 8) (fCall F_l_weight (aCons (fAt (fVar 3) (fVar 5)) (aCons (fVar 6) aNil))) (X10w lit n (some (.int k)) (some (.int sort)) (some (.int i)) b none none) h0 = .nx (X10w lit n (some (.int k)) (some (.int sort)) (some (.int i)) (some (.int v)) none none) (h0.set (1 + k) (.lst [.int y'])) :=
        ev_set (ev_call (ev_2 (ev_at rfl rfl (ev_seq w.sts) (refs_at (a := 1) hk)) rfl) ev)
      by_cases e : 0 < v
      · have t1 := w1.ti k hk
        have w2 := w1.app hk (i, v)
        have t2 := w2.ti i hin
        have l1 : ((R k).map encP).length < SZ := by rw [List.length_map]; exact Nat.lt_of_le_of_lt (o.len k) le
        have l2 : (((putR R k (i, v)) i).map encP).length < SZ := by rw [List.length_map, putR, if_neg (Nat.ne_of_lt hi)]; exact Nat.lt_of_le_of_lt (o.len i) le
        exact ⟨_, _, (sq_nx t0).trans ((ev_t (ev_b (ev_bin rfl rfl (ev_gtt e)))).trans ((sq_nx (ev_exp (ev_app (ev_at rfl rfl (ev_seq w1.tis) (refs_at (a := n + 2) hk)) t1 (ev_tup (ev_2 rfl rfl)) t1 l1))).trans (ev_exp (ev_app (ev_at rfl rfl (ev_seq w2.tis) (refs_at (a := n + 2) hin)) t2 (ev_tup (ev_2 rfl rfl)) t2 l2)))),
          .mk _ _ _ _ (w2.app hin (k, v)) (o.put hk hin (Nat.ne_of_lt hi) mm.b (mm.d i (Nat.le_refl _) hi) e v1) (mm.put hi v) (by rw [List.length_set, List.length_set, List.length_set]; exact hL)⟩
      · exact ⟨_, _, (sq_nx t0).trans (ev_f (ev_b (ev_bin rfl rfl (ev_gtf e)))), .mk _ _ _ _ w1 (o.le (Nat.add_le_add_left (Nat.mul_le_mul_left 2 (Nat.le_succ i)) c)) (mm.skip hi) (by rw [List.length_set]; exact hL)⟩) w
  rwa [List.length_map, List.length_range, Nat.zero_add] at f
inductive OuP (n : Nat) (lit : D) (L i : Nat) : Sd → Hd → Prop
  | mk (R : Nat → List (Nat × Int)) (a b c d : Option D) (h : Hd) (w : WS n R h) (o : RowsOk n (60 * i) R) (m : Mid i 0 R) (l : h.length = L) : OuP n lit L i (X10w lit n a b c d none none) h
theorem Mid.up {i : Nat} {R : Nat → List (Nat × Int)} (qm : Mid i i R) : Mid (i + 1) 0 R := by
  refine ⟨fun j hj => qm.a j (Nat.lt_of_succ_lt hj), fun p hp => ?_, fun j hj => absurd hj (Nat.not_lt_zero j), fun j _ hj p hp => ?_⟩
  · rw [qm.a (i + 1) (Nat.lt_succ_self i)] at hp; cases hp
  · by_cases e : j < i
    · exact Nat.lt_succ_of_le (qm.c j e p hp)
    · obtain rfl : j = i := Nat.le_antisymm (Nat.le_of_lt_succ hj) (Nat.not_lt.mp e)
      exact Nat.lt_succ_of_lt (qm.b p hp)
theorem o60 {i n : Nat} (hi : i < n) (hn : n ≤ 30) : 60 * i + 2 * i ≤ 100000 := by omega
theorem o61 {i n : Nat} (hi : i < n) (hn : n ≤ 30) : 60 * i + 2 * i ≤ 60 * (i + 1) := by omega
theorem outer_ok {n : Nat} {lit : D} (hn : n ≤ 30) {L : Nat} {σ : Sd} {h : Hd} (w : OuP n lit L 0 σ h) :
    ∃ σ' h', forL none ((List.range n).map fun k : Nat => D.int k) (gN 5) B1_l_web ((List.range n).map fun k : Nat => D.int k) σ h = .nx σ' h' ∧ OuP n lit L n σ' h' := by
  have f := forL_next (P := OuP n lit L) (g := none) (k := 0) (all := (List.range n).map fun k : Nat => D.int k) (fun _ _ _ _ => trivial) (xs := (List.range n).map fun k : Nat => D.int k) (tg := gN 5) (b := B1_l_web) (σ := σ) (h := h) (by
      intro i x σ h0 hx op
      obtain ⟨hi, rfl⟩ := range_at hx
      rw [Nat.zero_add] at op ⊢
      cases op with
      | mk R a b c d _ w o mm hL =>
      obtain ⟨y, ey⟩ := w.st i hi
      obtain ⟨σ', h', q1, q⟩ := inner_ok (lit := lit) (sort := y % 3) hi (c := 60 * i) (o60 hi hn) (.mk R c d _ (w.setSt hi (y / 3)) o mm ((List.length_set).trans hL))
      refine ⟨_, rfl, σ', h', (sq_nx (ev_set (ev_call (ev_2 (ev_at rfl rfl (ev_seq w.sts) (refs_at (a := 1) hi)) rfl) (digit_ok ey (show (0 : Int) < 3 by decide) (by decide))))).trans (ev_for (ev_range rfl (le30 (Nat.le_trans (Nat.le_of_lt hi) hn))) q1), ?_⟩
      cases q with
      | mk R' a' b' _ w' o' m' l' => exact .mk R' _ _ _ _ _ w' (o'.le (o61 hi hn)) m'.up l') w
  rwa [List.length_map, List.length_range, Nat.zero_add] at f
theorem sum_le (l : List (Nat × Int)) (h : ∀ p ∈ l, 1 ≤ p.2 ∧ p.2 ≤ 400) : 0 ≤ (l.map (·.2)).sum ∧ (l.map (·.2)).sum ≤ 400 * l.length := by
  induction l with
  | nil => simp
  | cons p l ih =>
    have h1 := h p (by simp)
    have h2 := ih fun q hq => h q (by simp [hq])
    simp
    omega
structure WB (n : Nat) (R : Nat → List (Nat × Int)) (i : Nat) (bs : List Int) (ss : List (Option Int)) (h : Hd) : Prop where
  w : WS n R h
  hb : h[2 * n + 3]? = some (.lst (bs.map .int))
  hs : h[2 * n + 4]? = some (.lst (ss.map encO))
  lb : bs.length = i
  ls : ss.length = i
  os : ∀ x ∈ ss, x = none ∨ x = some 0 ∨ x = some 1
inductive BaP (n : Nat) (R : Nat → List (Nat × Int)) (lit : D) (i : Nat) : Sd → Hd → Prop
  | mk (bs : List Int) (ss : List (Option Int)) (a b c d : Option D) (h : Hd) (B : WB n R i bs ss h) : BaP n R lit i (X10w lit n a b c d (some (.ref (2 * n + 3))) (some (.ref (2 * n + 4)))) h
theorem s18 {x : Int} {l : Nat} (h : x ≤ 400 * l) (q : l ≤ 1800) : x ≤ 1000000 := by omega
theorem bars_ok {n : Nat} {lit : D} (hn : n ≤ 30) {R : Nat → List (Nat × Int)} (o : RowsOk n 1800 R) {σ : Sd} {h : Hd} (w : BaP n R lit 0 σ h) :
    ∃ σ' h', forL none ((List.range n).map fun k : Nat => D.int k) (gN 5) B0_l_web ((List.range n).map fun k : Nat => D.int k) σ h = .nx σ' h' ∧ BaP n R lit n σ' h' := by
  have f := forL_next (P := BaP n R lit) (g := none) (k := 0) (all := (List.range n).map fun k : Nat => D.int k) (fun _ _ _ _ => trivial) (xs := (List.range n).map fun k : Nat => D.int k) (tg := gN 5) (b := B0_l_web) (σ := σ) (h := h) (by
      intro i x σ h0 hx bp
      obtain ⟨hi, rfl⟩ := range_at hx
      rw [Nat.zero_add] at bp ⊢
      cases bp with
      | mk bs ss a b c d _ B =>
      have w := B.w
      obtain ⟨y, ey⟩ := w.st i hi
      have r1 := refs_at (a := 1) hi
      have r2 := refs_at (a := n + 2) hi
      have ti := w.ti i hi
      have comp : compL (some (n + 2 + i)) ((R i).map encP) (gT [0, 1]) [] (fVar 1) ((R i).map encP) [none, none] h0 = .ok (((R i).map (·.2)).map D.int) h0 := by
        have := compL_pure (g := some (n + 2 + i)) (all := (R i).map encP) (tg := gT [0, 1]) (cs := []) (e := fVar 1) (h := h0) (I := fun σ => ∃ a b, σ = [a, b]) (fun _ => true) (fun d => match d with | .tup [_, x] => x | _ => .non) ti (xs := (R i).map encP) (σ := [none, none]) (by
          rintro x hx σ ⟨a, b, rfl⟩
          obtain ⟨q, hq, rfl⟩ := List.mem_map.mp hx
          exact ⟨_, rfl, ⟨_, _, rfl⟩, rfl, fun _ => rfl⟩) ⟨_, _, rfl⟩
        rw [this, List.filter_eq_self.mpr (by simp), List.map_map, List.map_map]
        rfl
      have sl := sum_le (R i) fun p hp => o.wt i p hp
      have ln := o.len i
      obtain ⟨v, y', e1⟩ := bar_ok (t := ((R i).map (·.2)).sum) ey sl.1 (s18 sl.2 ln)
      have w1 := w.setSt hi y'
      have a3 : 2 * n + 2 < 2 * n + 3 := Nat.lt_succ_self _
      have a4 : 2 * n + 2 < 2 * n + 4 := Nat.lt_succ_of_lt a3
      have n34 : 2 * n + 3 ≠ 2 * n + 4 := Nat.ne_of_lt (Nat.lt_succ_self _)
      have hb1 := keepSt (x := .lst [.int y']) hi a3 B.hb
      have lbz : (bs.map D.int).length < SZ := by rw [List.length_map, B.lb]; exact Nat.lt_of_lt_of_le hi (le30 hn)
      have lsz : (ss.map encO).length < SZ := by rw [List.length_map, B.ls]; exact Nat.lt_of_lt_of_le hi (le30 hn)
      obtain ⟨h2, hh2⟩ : ∃ h2, h2 = (h0.set (1 + i) (.lst [.int y'])).set (2 * n + 3) (.lst (bs.map .int ++ [.int v])) := ⟨_, rfl⟩
      have w2 : WS n R h2 := by rw [hh2]; exact w1.setO a3 _
      obtain ⟨z, ez⟩ := w2.st i hi
      have e2 := digit_ok ez (show (0 : Int) < 7 by decide) (by decide)
      obtain ⟨u, hu, q⟩ := pick encO [none, none, none, none, none, some 0, some 1] z 7 rfl (by decide)
      have q : atI [D.non, .non, .non, .non, .non, .int 0, .int 1] (z % 7) = some (encO u) := q
      have w3 := w2.setSt hi (z / 7)
      have hs20 : h2[2 * n + 4]? = some (.lst (ss.map encO)) := by rw [hh2, List.getElem?_set_ne n34]; exact keepSt hi a4 B.hs
      have hs2 := keepSt (x := .lst [.int (z / 7)]) hi a4 hs20
      have t1 : sExp (fApp (fVar 9) (fCall F_l_bar (aCons (fAt (fVar 3) (fVar 5)) (aCons (fSum (lComp 2 [] (iSeq (fAt (fVar 4) (fVar 5))) (gT [0, 1]) [] (fVar 1))) aNil)))) (X10w lit n (some (.int i)) b c d (some (.ref (2 * n + 3))) (some (.ref (2 * n + 4)))) h0 = .nx (X10w lit n (some (.int i)) b c d (some (.ref (2 * n + 3))) (some (.ref (2 * n + 4)))) h2 := by
        rw [hh2]; exact ev_exp (ev_app rfl B.hb (ev_call (ev_2 (ev_at rfl rfl (ev_seq w.sts) r1) (ev_sum (ev_comp (ev_iseq (ev_at rfl rfl (ev_seq w.tis) r2) ti) comp) (intsD_map _))) e1) hb1 lbz)
      refine ⟨_, rfl, _, _, (sq_nx t1).trans (ev_exp (ev_app rfl hs20 (ev_ix rfl (ev_call (ev_2 (ev_at rfl rfl (ev_seq w2.sts) r1) rfl) e2) q) hs2 lsz)), .mk (bs ++ [v]) (ss ++ [u]) _ _ _ _ _ ?_⟩
      · refine ⟨w3.setO a4 _, ?_, ?_, by rw [List.length_append, B.lb]; rfl, by rw [List.length_append, B.ls]; rfl, fun x hx => ?_⟩
        · rw [List.getElem?_set_ne n34.symm]
          refine keepSt hi a3 ?_
          rw [hh2, List.getElem?_set_self (List.getElem?_eq_some_iff.mp hb1).1, List.map_append]; rfl
        · rw [List.getElem?_set_self (List.getElem?_eq_some_iff.mp hs2).1, List.map_append]; rfl
        · rcases List.mem_append.mp hx with hx | hx
          · exact B.os x hx
          · rw [List.mem_singleton.mp hx]
            simp at hu
            rcases hu with rfl | rfl | rfl
            · exact .inl rfl
            · exact .inr (.inl rfl)
            · exact .inr (.inr rfl)) w
  rwa [List.length_map, List.length_range, Nat.zero_add] at f
noncomputable def toL (p : Nat × Int) : List Int := [(p.1 : Int), p.2]
theorem rows_enc (r : List (Nat × Int)) : rows (r.map encP) = some (r.map toL) := by
  induction r with
  | nil => rfl
  | cons p r ih => simp [rows, encP, intsD, ih, toL]
theorem asc_of : ∀ {r : List (Nat × Int)}, (r.Pairwise fun p q => p.1 < q.1) → ascR (r.map toL) = true
  | [], _ => rfl
  | [_], _ => rfl
  | p :: q :: r, h => by
    have h1 : p.1 < q.1 := (List.pairwise_cons.mp h).1 q (by simp)
    have h2 := asc_of (List.pairwise_cons.mp h).2
    have e : ¬ (q.1 : Int) = p.1 := by omega
    have e' : ¬ (q.1 : Int) < p.1 := by omega
    simp only [List.map_cons] at h2 ⊢
    simp [ascR, h2]
    simp [toL, lexLt, e, e']
theorem ris_len {n : Nat} : ∀ {r : List (Nat × Int)} {m : Nat}, (r.Pairwise fun p q => p.1 < q.1) → (∀ p ∈ r, m ≤ p.1 ∧ p.1 < n) → r.length + m ≤ max n m
  | [], m, _, _ => Nat.le_trans (Nat.le_of_eq (Nat.zero_add m)) (Nat.le_max_right n m)
  | p :: r, m, h, b => by
    have hp := b p (by simp)
    have := ris_len (m := p.1 + 1) (List.pairwise_cons.mp h).2 fun q hq => ⟨(List.pairwise_cons.mp h).1 q hq, (b q (by simp [hq])).2⟩
    rw [Nat.max_eq_left hp.2] at this
    refine Nat.le_trans ?_ (Nat.le_max_left n m)
    rw [List.length_cons, Nat.add_assoc, Nat.add_comm 1 m]
    exact Nat.le_trans (Nat.add_le_add_left (Nat.succ_le_succ hp.1) _) this
theorem sort_ok {n : Nat} (hn : n ≤ 30) {r : List (Nat × Int)} (h : r.Pairwise fun p q => p.1 < q.1) (b : ∀ p ∈ r, p.1 < n) : r.length < 64 ∧ ascR (r.map toL) = true ∧ (r.map toL).all (fun x => !x.isEmpty) = true := by
  have := ris_len (m := 0) h fun p hp => ⟨Nat.zero_le _, b p hp⟩
  rw [Nat.max_eq_left (Nat.zero_le n)] at this
  refine ⟨Nat.lt_of_le_of_lt (Nat.le_trans this hn) (by decide), asc_of h, ?_⟩
  rw [List.all_map, List.all_eq_true]
  intro p _
  rfl
structure WebOut (ns : List Int) (n : Nat) (w : Web) (h : Hd) : Prop where
  run : F_l_web [.lit (ns.map .int)] [] = .ok (.tup [w.enc, .ref (n + 1), .ref 0]) h
  n1 : 1 ≤ n
  n30 : n ≤ 30
  ok : w.Ok n
  st : ∀ x ∈ w.stays, x = none ∨ x = some 0 ∨ x = some 1
  hd0 : ∃ x, h[0]? = some (.lst [.int x])
  hst : ∀ i, i < n → ∃ y, h[1 + i]? = some (.lst [.int y])
  sts : h[n + 1]? = some (.lst ((List.range n).map fun i => .ref (1 + i)))
noncomputable def cI (y : Int) : Cell := .lst [.int y]
theorem states_ok (ns : List Int) (x1 : Int) {n : Nat} (hn : n ≤ 30) : ∃ ys : List Int, ys.length = n ∧ compL none ((List.range n).map fun k : Nat => D.int k) (gN 0) [] (fNew (aCons (fCall F_l_cell (aCons (fVar 1) (aCons (fBin oAdd (fC (.int 1)) (fVar 0)) aNil))) aNil)) ((List.range n).map fun k : Nat => D.int k) [none, some (.lit (ns.map .int))] [cI x1] = .ok ((List.range n).map fun i => .ref (1 + i)) (cI x1 :: ys.map cI) := by
  obtain ⟨ds, h1, k1, l1, v1, σ1, ⟨a, q1⟩, ys, ly, hh⟩ := compL_next (g := none) (all := (List.range n).map fun k : Nat => D.int k) (tg := gN 0) (xs := (List.range n).map fun k : Nat => D.int k) (k := 0)
    (e := fNew (aCons (fCall F_l_cell (aCons (fVar 1) (aCons (fBin oAdd (fC (.int 1)) (fVar 0)) aNil))) aNil)) (σ := [none, some (.lit (ns.map .int))]) (h := [cI x1])
    (P := fun i σ h => (∃ a, σ = [a, some (.lit (ns.map .int))]) ∧ ∃ ys : List Int, ys.length = i ∧ h = cI x1 :: ys.map cI) (V := fun i d => d = .ref (1 + i)) (fun _ _ _ _ => trivial) (by
      rintro i x σ h0 hx ⟨⟨a, rfl⟩, ys, ly, rfl⟩
      obtain ⟨hi, rfl⟩ := range_at hx
      rw [Nat.zero_add] at ly ⊢
      obtain ⟨y, ey⟩ := cell_ok ns (1 + i) (Nat.le_trans (Nat.add_le_add_left (Nat.le_of_lt hi) 1) (Nat.le_trans (Nat.add_le_add_left hn 1) (by decide))) (cI x1 :: ys.map cI)
      exact ⟨_, rfl, _, _, new_end (A := 1 + i) (by rw [List.length_cons, List.length_map, ly, Nat.add_comm]) (ev_cons (ev_call (ev_2 rfl (ev_bin rfl rfl rfl)) ey) rfl) (by exact of_decide_eq_true rfl), rfl, ⟨_, rfl⟩, ys ++ [y], by rw [List.length_append, ly]; rfl, by rw [List.map_append]; rfl⟩) ⟨⟨_, rfl⟩, [], rfl, rfl⟩
  rw [List.length_map, List.length_range] at l1 ly
  rw [Nat.zero_add] at ly
  have e1 : ds = (List.range n).map fun i => .ref (1 + i) := list_of_at l1 fun i d hd => (v1 i d hd).trans (by rw [Nat.zero_add])
  rw [e1, hh] at k1
  exact ⟨ys, ly, k1⟩
theorem empties_ok {h : Hd} {A n : Nat} (hA : A = h.length) : compL none ((List.range n).map fun k : Nat => D.int k) (gN 0) [] (fNew aNil) ((List.range n).map fun k : Nat => D.int k) [none] h = .ok ((List.range n).map fun i => .ref (A + i)) (h ++ List.replicate n (Cell.lst [])) := by
  obtain ⟨ds, h1, k1, l1, v1, σ1, ⟨a, q1⟩, hh⟩ := compL_next (g := none) (all := (List.range n).map fun k : Nat => D.int k) (tg := gN 0) (xs := (List.range n).map fun k : Nat => D.int k) (k := 0)
    (e := fNew aNil) (σ := [none]) (h := h) (P := fun i σ h' => (∃ a, σ = [a]) ∧ h' = h ++ List.replicate i (.lst [])) (V := fun i d => d = .ref (A + i)) (fun _ _ _ _ => trivial) (by
      rintro i x σ h0 hx ⟨⟨a, rfl⟩, rfl⟩
      obtain ⟨hi, rfl⟩ := range_at hx
      rw [Nat.zero_add]
      exact ⟨_, rfl, _, _, ev_new' (xs := []) hA rfl (Nat.zero_le _), by rw [List.length_replicate], ⟨_, rfl⟩, by rw [List.replicate_succ']⟩) ⟨⟨_, rfl⟩, (List.append_nil _).symm⟩
  rw [List.length_map, List.length_range] at l1 hh
  rw [Nat.zero_add] at hh
  have e1 : ds = (List.range n).map fun i => .ref (A + i) := list_of_at l1 fun i d hd => (v1 i d hd).trans (by rw [Nat.zero_add])
  rw [e1, hh] at k1
  exact k1
theorem ws0 {n : Nat} (x1 : Int) {ys : List Int} (ly : ys.length = n) : WS n (fun _ => []) (((cI x1 :: ys.map cI) ++ [.lst ((List.range n).map fun i => .ref (1 + i))]) ++ List.replicate n (Cell.lst []) ++ [.lst ((List.range n).map fun i => .ref (n + 2 + i))]) := by
  have l1 : n + 1 = (cI x1 :: ys.map cI).length := by rw [List.length_cons, List.length_map, ly]
  have l2 : n + 2 = ((cI x1 :: ys.map cI) ++ [Cell.lst ((List.range n).map fun i => .ref (1 + i))]).length := by rw [List.length_append, ← l1]; rfl
  have l3 : 2 * n + 2 = (((cI x1 :: ys.map cI) ++ [Cell.lst ((List.range n).map fun i => .ref (1 + i))]) ++ List.replicate n (Cell.lst [])).length := by rw [List.length_append, ← l2, List.length_replicate]; omega
  refine ⟨⟨x1, rfl⟩, fun i hi => ⟨ys.getD i 0, app_at _ (app_at _ (app_at _ ?_))⟩, app_at _ (app_at _ (get_end l1 _)), fun i hi => app_at _ ?_, get_end l3 _⟩
  · rw [Nat.add_comm, List.getElem?_cons_succ, List.getElem?_map, List.getElem?_eq_getElem (ly ▸ hi), List.getD_eq_getElem?_getD, List.getElem?_eq_getElem (ly ▸ hi)]; rfl
  · rw [at_pre' l2 i, List.getElem?_replicate_of_lt hi]; rfl
theorem web_ok (ns : List Int) : ∃ n w h, WebOut ns n w h := by
  obtain ⟨v0, c0⟩ := cell_ok ns 0 (Nat.zero_le _) []
  have c0 : F_l_cell [.lit (ns.map .int), .int 0] [] = .ok (.int v0) [] := c0
  have hm : ∃ m : Int, 0 < m ∧ m ≤ 30 ∧ atI [D.int 7, .int 7, .int 12, .int 30] (v0 / 2 % 4) = some (.int m) := by
    obtain ⟨v, hv, q⟩ := pick D.int [7, 7, 12, 30] (v0 / 2) 4 rfl (by decide)
    refine ⟨v, ?_, ?_, q⟩ <;> (simp at hv; rcases hv with rfl | rfl | rfl <;> decide)
  obtain ⟨m, m0, m1, em⟩ := hm
  have d1 := digit_ok (h := [.lst [.int (v0 / 2)]]) (n := 0) (x := v0 / 2) rfl (show (0 : Int) < 4 by decide) (by decide)
  have d2 := digit_ok (h := [.lst [.int (v0 / 2 / 4)]]) (n := 0) (x := v0 / 2 / 4) rfl m0 (Int.lt_of_le_of_lt m1 (by decide))
  obtain ⟨n, hn, n1, n30⟩ : ∃ n : Nat, (n : Int) = 1 + v0 / 2 / 4 % m ∧ 1 ≤ n ∧ n ≤ 30 := by
    have b0 := Int.emod_nonneg (v0 / 2 / 4) (Int.ne_of_gt m0)
    have b1 := Int.emod_lt_of_pos (v0 / 2 / 4) m0
    clear d1 d2 em c0
    generalize v0 / 2 / 4 % m = y at b0 b1
    exact ⟨(1 + y).toNat, by omega, by omega, by omega⟩
  obtain ⟨x1, hx1⟩ : ∃ x1, x1 = v0 / 2 / 4 / m := ⟨_, rfl⟩
  obtain ⟨ys, ly, k1⟩ := states_ok ns x1 n30
  obtain ⟨h1, hh1⟩ : ∃ h1, h1 = cI x1 :: ys.map cI := ⟨_, rfl⟩
  have l1 : n + 1 = h1.length := by rw [hh1, List.length_cons, List.length_map, ly]
  have W0 := ws0 x1 ly
  rw [← hh1] at k1 W0
  have l2 : n + 2 = (h1 ++ [Cell.lst ((List.range n).map fun i => .ref (1 + i))]).length := by rw [List.length_append, ← l1]; rfl
  have k2 := empties_ok (n := n) l2
  obtain ⟨h2, hh2⟩ : ∃ h2, h2 = (h1 ++ [Cell.lst ((List.range n).map fun i => .ref (1 + i))]) ++ List.replicate n (Cell.lst []) := ⟨_, rfl⟩
  have l3 : 2 * n + 2 = h2.length := by rw [hh2, List.length_append, ← l2, List.length_replicate, Nat.two_mul, Nat.add_right_comm]
  rw [← hh2] at k2 W0
  have O0 : RowsOk n 0 (fun _ => []) := ⟨fun _ => .nil, (fun _ _ h => nomatch h), (fun _ _ h => nomatch h), fun _ => Nat.zero_le _⟩
  obtain ⟨σ3, h3, k3, ou⟩ := outer_ok (lit := .lit (ns.map .int)) n30 (L := 2 * n + 3) (.mk (fun _ => []) none none none none _ W0 O0 ⟨fun _ _ => rfl, (fun _ h => nomatch h), (fun _ _ _ h => nomatch h), (fun _ _ _ _ h => nomatch h)⟩ (by rw [List.length_append, ← l3]; rfl))
  cases ou with
  | mk R a b c d _ W3 O3 _ L3 =>
  have W4 : WB n R 0 [] [] (h3 ++ [.lst []] ++ [.lst []]) := ⟨(W3.more _).more _, app_at _ (get_end L3.symm _), get_end (by rw [List.length_append, L3]; rfl) _, rfl, rfl, fun x hx => nomatch hx⟩
  obtain ⟨σ5, h5, k5, ba⟩ := bars_ok (lit := .lit (ns.map .int)) n30 (O3.le (show 60 * n ≤ 1800 from Nat.mul_le_mul_left 60 n30)) (.mk [] [] a b c d _ W4)
  cases ba with
  | mk bs ss a' b' c' d' _ W5 =>
  have comp : compL (some (2 * n + 2)) ((List.range n).map fun i => .ref (n + 2 + i)) (gN 0) [] (fTupL (lSortR (fVar 0))) ((List.range n).map fun i => .ref (n + 2 + i)) [none] h5
      = .ok (((List.range n).map fun i => (R i)).map encR) h5 := by
    have := compL_pure (g := some (2 * n + 2)) (all := (List.range n).map fun i => .ref (n + 2 + i)) (tg := gN 0) (cs := []) (e := fTupL (lSortR (fVar 0))) (h := h5) (I := fun σ => ∃ a, σ = [a]) (fun _ => true)
      (fun d => match d with | .ref k => encR (R (k - (n + 2))) | _ => .non) W5.w.tis (xs := (List.range n).map fun i => .ref (n + 2 + i)) (σ := [none]) (by
        rintro x hx σ ⟨a, rfl⟩
        obtain ⟨i, hi, rfl⟩ := List.mem_map.mp hx
        have hi := List.mem_range.mp hi
        refine ⟨_, rfl, ⟨_, rfl⟩, rfl, fun _ => ?_⟩
        have t := W5.w.ti i hi
        have so := sort_ok n30 (O3.ris i) (O3.lt i)
        have so' : ((R i).map encP).length < 64 ∧ ascR ((R i).map toL) = true ∧ ((R i).map toL).all (fun x => !x.isEmpty) = true := by rw [List.length_map]; exact so
        simp only [List.set_cons_zero, fTupL, lSortR, lstOf, sortedR, fVar, slot, List.getElem?_cons_zero, bind_ok, t, rows_enc, if_pos so', encR, Nat.add_sub_cancel_left]) ⟨_, rfl⟩
    rw [this, List.filter_eq_self.mpr (by simp), List.map_map, List.map_map]
    congr 1
    apply List.map_congr_left
    intro i _
    simp
  refine ⟨n, ⟨(List.range n).map fun i => (R i), bs, ss⟩, h5, ?_⟩
  refine ⟨?_, n1, n30, ⟨by rw [List.length_map, List.length_range], W5.lb, W5.ls, fun r hr p hp => ?_, le30 n30⟩, W5.os, W5.w.hd0, W5.w.st, W5.w.sts⟩
  · obtain ⟨S0, hS⟩ : ∃ S0 : D, S0 = .lit (ns.map .int) := ⟨_, rfl⟩
    rw [← hS] at c0 k1 k3 k5 ⊢
    have s1 : sSet (gN 1) (fNew (aCons (fBin oDiv (fCall F_l_cell (aCons (fVar 0) (aCons (fC (.int 0)) aNil))) (fC (.int 2))) aNil)) [some S0, none, none, none, none, none, none, none, none, none, none] [] = .nx [some S0, some (.ref 0), none, none, none, none, none, none, none, none, none] [.lst [.int (v0 / 2)]] := by
      have dv : fBin oDiv (fCall F_l_cell (aCons (fVar 0) (aCons (fC (.int 0)) aNil))) (fC (.int 2)) [some S0, none, none, none, none, none, none, none, none, none, none] [] = .ok (.int (v0 / 2)) [] := ev_bin (ev_call (ev_2 rfl rfl) c0) rfl (ev_div (by decide) (by decide))
      exact ev_set (new_end (A := 0) (h' := []) (xs := [.int (v0 / 2)]) rfl (ev_cons (h2 := []) dv rfl) (by exact of_decide_eq_true rfl))
    have s2 : sSet (gN 2) (fBin oAdd (fC (.int 1)) (fCall F_l_digit (aCons (fVar 1) (aCons (fIx (aCons (fC (.int 7)) (aCons (fC (.int 7)) (aCons (fC (.int 12)) (aCons (fC (.int 30)) aNil)))) (fCall F_l_digit (aCons (fVar 1) (aCons (fC (.int 4)) aNil)))) aNil)))) [some S0, some (.ref 0), none, none, none, none, none, none, none, none, none] [.lst [.int (v0 / 2)]] = .nx [some S0, some (.ref 0), some (.int n), none, none, none, none, none, none, none, none] [.lst [.int x1]] := by
      rw [hn, hx1]; exact ev_set (ev_bin rfl (ev_call (ev_2 rfl (ev_ix rfl (ev_call (ev_2 rfl rfl) d1) em)) d2) rfl)
    have s3 : sSet (gN 3) (fNew (lComp 1 [0] (iRange (fVar 2)) (gN 0) [] (fNew (aCons (fCall F_l_cell (aCons (fVar 1) (aCons (fBin oAdd (fC (.int 1)) (fVar 0)) aNil))) aNil)))) [some S0, some (.ref 0), some (.int n), none, none, none, none, none, none, none, none] [.lst [.int x1]] = .nx [some S0, some (.ref 0), some (.int n), some (.ref (n + 1)), none, none, none, none, none, none, none] (h1 ++ [.lst ((List.range n).map fun i => .ref (1 + i))]) :=
      ev_set (new_end l1 (ev_comp (ev_range rfl (le30 n30)) k1) (by rw [List.length_map, List.length_range]; exact le30 n30))
    have s4 : sSet (gN 4) (fNew (lComp 1 [] (iRange (fVar 2)) (gN 0) [] (fNew aNil))) [some S0, some (.ref 0), some (.int n), some (.ref (n + 1)), none, none, none, none, none, none, none] (h1 ++ [.lst ((List.range n).map fun i => .ref (1 + i))]) = .nx [some S0, some (.ref 0), some (.int n), some (.ref (n + 1)), some (.ref (2 * n + 2)), none, none, none, none, none, none] (h2 ++ [.lst ((List.range n).map fun i => .ref (n + 2 + i))]) :=
      ev_set (new_end l3 (ev_comp (ev_range rfl (le30 n30)) k2) (by rw [List.length_map, List.length_range]; exact le30 n30))
    have s6 : sSet (gN 9) (fNew aNil) [some S0, some (.ref 0), some (.int n), some (.ref (n + 1)), some (.ref (2 * n + 2)), a, b, c, d, none, none] h3 = .nx [some S0, some (.ref 0), some (.int n), some (.ref (n + 1)), some (.ref (2 * n + 2)), a, b, c, d, some (.ref (2 * n + 3)), none] (h3 ++ [.lst []]) := ev_set (new_end (xs := []) L3.symm rfl (Nat.zero_le _))
    have s7 : sSet (gN 10) (fNew aNil) [some S0, some (.ref 0), some (.int n), some (.ref (n + 1)), some (.ref (2 * n + 2)), a, b, c, d, some (.ref (2 * n + 3)), none] (h3 ++ [.lst []]) = .nx [some S0, some (.ref 0), some (.int n), some (.ref (n + 1)), some (.ref (2 * n + 2)), a, b, c, d, some (.ref (2 * n + 3)), some (.ref (2 * n + 4))] (h3 ++ [.lst []] ++ [.lst []]) := ev_set (new_end (xs := []) (by rw [List.length_append, L3]; rfl) rfl (Nat.zero_le _))
    unfold F_l_web
    refine (fn_rt (σ := [some S0, none, none, none, none, none, none, none, none, none, none]) rfl rfl ?_).trans (letGo_ref (by simp only [pure?, pures, Bool.and_false, Bool.false_and]))
    rw [sq_nx s1, sq_nx s2, sq_nx s3, sq_nx s4, sq_nx (ev_for (ev_range rfl (le30 n30)) k3), sq_nx s6, sq_nx s7, sq_nx (ev_for (ev_range rfl (le30 n30)) k5)]
    exact ev_ret (ev_tup (ev_cons (ev_tup (ev_cons (ev_tupL (ev_comp (ev_iseq rfl W5.w.tis) comp)) (ev_2 (ev_tupL (ev_lof rfl (ev_seq W5.hb))) (ev_tupL (ev_lof rfl (ev_seq W5.hs)))))) (ev_2 rfl rfl)))
  · obtain ⟨i, hi, rfl⟩ := List.mem_map.mp hr
    exact O3.lt i p hp
theorem pures_ints : ∀ l : List Int, pures (l.map D.int) = true
  | [] => rfl
  | x :: l => pures_ints l
structure StH (n : Nat) (h : Hd) : Prop where
  st : ∀ i, i < n → ∃ y, h[1 + i]? = some (.lst [.int y])
  sts : h[n + 1]? = some (.lst ((List.range n).map fun i => .ref (1 + i)))
inductive StP (w : Web) (n : Nat) (h : Hd) (i : Nat) : Sd → Hd → Prop
  | mk (acc : List Int) (a b : Option D) (hs : Hd) (q1 : hs.length = h.length) (q2 : StH n hs) (q3 : ∀ j, (j = 0 ∨ n + 1 ≤ j) → hs[j]? = h[j]?) (q4 : acc.length = i) (q5 : ∀ x ∈ acc, x = 0 ∨ x = 1) (q6 : ∀ (j : Nat) y, j < i → w.stays[j]? = some (some y) → acc[j]? = some y) :
    StP w n h i [some w.enc, some (.ref (n + 1)), some (.ref h.length), a, b] (hs ++ [.lst (acc.map .int)])
theorem StH.set {n i : Nat} {h : Hd} (q2 : StH n h) (hi : i < n) (y : Int) : StH n (h.set (1 + i) (.lst [.int y])) where
  st := fun j hj => by
    obtain ⟨z, ez⟩ := q2.st j hj
    by_cases ij : i = j
    · subst ij; exact ⟨y, List.getElem?_set_self (List.getElem?_eq_some_iff.mp ez).1⟩
    · exact ⟨z, by rw [List.getElem?_set_ne fun q => ij (Nat.add_left_cancel q)]; exact ez⟩
  sts := by rw [List.getElem?_set_ne (by omega)]; exact q2.sts
theorem StP.next {w : Web} {n : Nat} {h : Hd} {i : Nat} {acc : List Int} {hs : Hd} (hi : i < n) (q1 : hs.length = h.length) (q2 : StH n hs) (q3 : ∀ j, (j = 0 ∨ n + 1 ≤ j) → hs[j]? = h[j]?) (q4 : acc.length = i) (q5 : ∀ x ∈ acc, x = 0 ∨ x = 1) (q6 : ∀ (j : Nat) y, j < i → w.stays[j]? = some (some y) → acc[j]? = some y)
    {st : Option Int} (es : w.stays[i]? = some st) {v : Int} (hv : v = 0 ∨ v = 1) (hst : ∀ y, st = some y → v = y) (a b : Option D) (y : Int) :
    StP w n h (i + 1) [some w.enc, some (.ref (n + 1)), some (.ref h.length), a, b] (hs.set (1 + i) (.lst [.int y]) ++ [.lst (acc.map .int ++ [.int v])]) := by
  have e : acc.map D.int ++ [.int v] = (acc ++ [v]).map .int := by rw [List.map_append]; rfl
  rw [e]
  refine .mk (acc ++ [v]) a b _ (by rw [List.length_set]; exact q1) (q2.set hi y) (fun j hj => ?_) (by rw [List.length_append, q4]; rfl) (fun x hx => ?_) fun j z hj e => ?_
  · rw [List.getElem?_set_ne (by omega)]; exact q3 j hj
  · rcases List.mem_append.mp hx with hx | hx
    · exact q5 x hx
    · rw [List.mem_singleton.mp hx]; exact hv
  · by_cases ij : j < i
    · rw [List.getElem?_append_left (q4 ▸ ij)]; exact q6 j z ij e
    · obtain rfl : j = i := Nat.le_antisymm (Nat.le_of_lt_succ hj) (Nat.not_lt.mp ij)
      rw [es] at e
      rw [List.getElem?_append_right (Nat.le_of_eq q4), q4, Nat.sub_self, hst z (Option.some.inj e)]; rfl
theorem mid_at {n m : Nat} (e : ¬ (m = 0 ∨ n + 1 ≤ m)) : m - 1 < n ∧ 1 + (m - 1) = m := ⟨by omega, by omega⟩
theorem stand_ok {w : Web} {n : Nat} (W : w.Ok n) (ho : ∀ x ∈ w.stays, x = none ∨ x = some 0 ∨ x = some 1) (hn : n ≤ 30) {h : Hd} (H : StH n h) :
    ∃ s h', F_l_stand [w.enc, .ref (n + 1)] h = .ok (encI s) h' ∧ Fits w n s ∧ StH n h' ∧ h'.length = h.length ∧ ∀ j, (j = 0 ∨ n + 1 ≤ j) → h'[j]? = h[j]? := by
  have hsts := app_at [.lst []] H.sts
  obtain ⟨σ', h1, k1, sp⟩ := forL_next (P := StP w n h) (g := none) (k := 0) (all := (List.range n).map fun k : Nat => D.int k) (fun _ _ _ _ => trivial) (xs := (List.range n).map fun k : Nat => D.int k) (tg := gN 3) (b := B0_l_stand)
    (σ := [some w.enc, some (.ref (n + 1)), some (.ref h.length), none, none]) (h := h ++ [.lst []]) (by
      intro i x σ h0 hx sp
      obtain ⟨hi, rfl⟩ := range_at hx
      rw [Nat.zero_add] at sp ⊢
      cases sp with
      | mk acc a b hs q1 q2 q3 q4 q5 q6 =>
      refine ⟨_, rfl, ?_⟩
      obtain ⟨y, ey⟩ := q2.st i hi
      have hA : h.length = (hs.set (1 + i) (.lst [.int (y / 2)])).length := by rw [List.length_set, q1]
      have d1 := digit_ok (app_at [.lst (acc.map .int)] ey) (show (0 : Int) < 2 by decide) (by decide)
      rw [List.set_append_left _ _ (List.getElem?_eq_some_iff.mp ey).1] at d1
      have hl : i < w.stays.length := W.s ▸ hi
      have os := ho _ (List.getElem_mem hl)
      have es := List.getElem?_eq_getElem hl
      have pst : atI (w.stays.map encO) (i : Int) = some (encO w.stays[i]) := at_map hl
      generalize w.stays[i] = st at es os pst
      have lz : (acc.map D.int).length < SZ := by rw [List.length_map, q4]; exact Nat.lt_of_lt_of_le hi (le30 hn)
      have a1 := sq_nx (b := sSeq (sIf (tE (fBin oIsNotN (fAt (fAt (fVar 0) (fC (.int 2))) (fVar 3)) (fC .non))) (sSet (gN 4) (fAt (fAt (fVar 0) (fC (.int 2))) (fVar 3))) sNil) (sExp (fApp (fVar 2) (fVar 4)))) (ev_set (i := 4) (σ := [some w.enc, some (.ref (n + 1)), some (.ref h.length), some (.int i), b]) (ev_call (r := aCons (fAt (fVar 1) (fVar 3)) (aCons (fC (.int 2)) aNil)) (ev_2 (ev_at rfl rfl (ev_seq (app_at [.lst (acc.map .int)] q2.sts)) (refs_at (a := 1) hi)) rfl) d1))
      have hq := get_end hA (.lst (acc.map .int))
      have a3 : ∀ v : Int, sExp (fApp (fVar 2) (fVar 4)) [some w.enc, some (.ref (n + 1)), some (.ref h.length), some (.int i), some (.int v)] (hs.set (1 + i) (.lst [.int (y / 2)]) ++ [Cell.lst (acc.map D.int)]) = .nx [some w.enc, some (.ref (n + 1)), some (.ref h.length), some (.int i), some (.int v)] (hs.set (1 + i) (.lst [.int (y / 2)]) ++ [Cell.lst (acc.map D.int ++ [D.int v])]) := fun v =>
        (ev_exp (ev_app rfl hq rfl hq lz)).trans (congrArg (Out.nx _) (set_end hA _ _))
      cases st with
      | none => exact ⟨_, _, a1.trans ((sq_nx (ev_f (ev_b (ev_bin (ev_at (ev_at rfl rfl rfl rfl) rfl rfl pst) rfl rfl)))).trans (a3 _)), StP.next hi q1 q2 q3 q4 q5 q6 es (Int.emod_two_eq y) (fun _ z => nomatch z) _ _ _⟩
      | some z => exact ⟨_, _, a1.trans ((sq_nx ((ev_t (ev_b (ev_bin (ev_at (ev_at rfl rfl rfl rfl) rfl rfl pst) rfl rfl))).trans (ev_set (ev_at (ev_at rfl rfl rfl rfl) rfl rfl pst)))).trans (a3 _)), StP.next hi q1 q2 q3 q4 q5 q6 es (os.elim (fun q => nomatch q) fun q => q.imp Option.some.inj Option.some.inj) (fun _ z => Option.some.inj z) _ _ _⟩) (.mk [] none none h rfl H (fun j _ => rfl) rfl (fun x hx => nomatch hx) fun j _ hj => absurd hj (Nat.not_lt_zero j))
  have ll : ((List.range n).map fun i => D.ref (1 + i)).length = n := by rw [List.length_map, List.length_range]
  have e0 : 0 + ((List.range n).map fun k : Nat => D.int k).length = n := by rw [List.length_map, List.length_range, Nat.zero_add]
  rw [e0] at sp
  cases sp with
  | mk acc a b hs q1 q2 q3 q4 q5 q6 =>
  have hq := get_end (h := hs) (A := h.length) q1.symm (.lst (acc.map .int))
  have fin := letGo_old (h := h) (h' := hs) (g := [.lst (acc.map .int)]) (d := .tup (acc.map .int)) (pures_ints acc) q1 (by
    intro m c hm hc
    rw [List.getElem?_append_left (q1.symm ▸ hm)] at hc
    by_cases e : m = 0 ∨ n + 1 ≤ m
    · left; rw [← q3 m e]; exact hc
    · right
      obtain ⟨y, ey⟩ := q2.st (m - 1) (mid_at e).1
      rw [(mid_at e).2, hc] at ey
      cases ey
      rfl)
  exact ⟨acc, hs, (fn_rt (σ := [some w.enc, some (.ref (n + 1)), none, none, none]) rfl rfl ((sq_nx (ev_set (ev_new (xs := []) rfl))).trans ((sq_nx (ev_for (ev_range (ev_len (ev_lof rfl (ev_seq hsts))) (by rw [ll]; exact le30 hn)) (by rw [ll]; exact k1))).trans (ev_ret (ev_tupL (ev_lof rfl (ev_seq hq))))))).trans fin, ⟨q4, q5, fun i x e => q6 i x (W.s ▸ (List.getElem?_eq_some_iff.mp e).1) e⟩, q2, q1, q3⟩
end Fm
set_option linter.all false
namespace Fm
noncomputable abbrev XT (w : Web) (s : List Int) (A : Nat) (a b c : Option D) : Sd := [some w.enc, some (encI s), some (.ref A), a, b, c]
theorem turn_held {w : Web} {n : Nat} {s : List Int} (W : w.Ok n) (F : Fits w n s) {i : Nat} (hi : i < n) {A : Nat} (h : Hd) :
    sIf (tE (fBin oIsNotN (fAt (fAt (fVar 0) (fC (.int 2))) (fVar 3)) (fC .non))) (sSet (gN 5) (fAt (fAt (fVar 0) (fC (.int 2))) (fVar 3))) (sIf (tE (fBin oNe (fVar 4) (fAt (fAt (fVar 0) (fC (.int 1))) (fVar 3)))) (sSet (gN 5) (fInt (fBin oGt (fVar 4) (fAt (fAt (fVar 0) (fC (.int 1))) (fVar 3))))) sNil) (XT w s A (some (.int i)) (some (.int (2 * pulled (w.ties.getD i []) s))) (some (.int (s.getD i 0)))) h
      = .nx (XT w s A (some (.int i)) (some (.int (2 * pulled (w.ties.getD i []) s))) (some (.int (nextI w s i)))) h := by
  have pb := at_getD D.int 0 (show i < w.bars.length from W.b ▸ hi)
  have ps := at_getD encO none (show i < w.stays.length from W.s ▸ hi)
  unfold nextI
  generalize 2 * pulled (w.ties.getD i []) s = P
  generalize w.bars.getD i 0 = b at pb ⊢
  generalize w.stays.getD i none = st at ps ⊢
  have as : ∀ σ : Sd, σ = XT w s A (some (.int i)) (some (.int P)) (some (.int (s.getD i 0))) → fAt (fAt (fVar 0) (fC (.int 2))) (fVar 3) σ h = .ok (encO st) h := fun σ e => by rw [e]; exact ev_at (ev_at rfl rfl rfl rfl) rfl rfl ps
  have ab : ∀ σ : Sd, σ = XT w s A (some (.int i)) (some (.int P)) (some (.int (s.getD i 0))) → fAt (fAt (fVar 0) (fC (.int 1))) (fVar 3) σ h = .ok (.int b) h := fun σ e => by rw [e]; exact ev_at (ev_at rfl rfl rfl rfl) rfl rfl pb
  cases st with
  | some x => exact (ev_t (ev_b (ev_bin (as _ rfl) rfl rfl))).trans (ev_set (as _ rfl))
  | none =>
    refine (ev_f (ev_b (ev_bin (as _ rfl) rfl rfl))).trans ?_
    by_cases e1 : P = b
    · exact (ev_f (ev_b (ev_bin rfl (ab _ rfl) (by rw [oNe_ii, decide_eq_true e1]; rfl)))).trans (by rw [if_pos e1]; rfl)
    · refine (ev_t (ev_b (ev_bin rfl (ab _ rfl) (by rw [oNe_ii, decide_eq_false e1]; rfl)))).trans ?_
      rw [if_neg e1]
      by_cases e2 : b < P
      · rw [if_pos e2]; exact ev_set (ev_int (ev_bin rfl (ab _ rfl) (ev_gtt e2)))
      · rw [if_neg e2]; exact ev_set (ev_int (ev_bin rfl (ab _ rfl) (ev_gtf e2)))
theorem turn_ok {w : Web} {n : Nat} {s : List Int} (W : w.Ok n) (S : StayOk w) (F : Fits w n s) (hn : n ≤ 30) (h : Hd) : F_l_turn [w.enc, encI s] h = .ok (encI (turnS w n s)) h := by
  obtain ⟨A, hA⟩ : ∃ A, A = h.length := ⟨_, rfl⟩
  obtain ⟨σ', h', h1, h2, x, y, z, h3⟩ := forL_next (P := fun i σ h' => h' = h ++ [.lst (((List.range i).map (nextI w s)).map .int)] ∧ ∃ x y z, σ = XT w s A x y z) (g := none) (k := 0)
      (all := (List.range n).map fun k : Nat => D.int k) (fun _ _ _ _ => trivial)
      (xs := (List.range n).map fun k : Nat => D.int k) (tg := gN 3) (σ := XT w s A none none none) (h := h ++ [.lst []])
      (b := B0_l_turn) (by
      rintro i x σ h0 hx ⟨rfl, a, b, c, rfl⟩
      obtain ⟨hi, rfl⟩ := range_at hx
      rw [Nat.zero_add]
      have ht : i < w.ties.length := W.t ▸ hi
      have g2 := get_end hA (.lst (((List.range i).map (nextI w s)).map .int))
      refine ⟨_, rfl, XT w s A (some (.int i)) (some (.int (2 * pulled (w.ties.getD i []) s))) (some (.int (nextI w s i))), _, (sq_nx (ev_set (ev_bin rfl (ev_sum (ev_comp (ev_iseqT (ev_at (ev_at rfl rfl rfl rfl) rfl rfl (at_getD encR [] ht))) (pull_key (fun q hq => ?_) _)) (intsD_map _)) (ev_mul1 (by decide))))).trans ((sq_nx (ev_set (ev_at rfl rfl rfl (getD_at (F.len ▸ hi))))).trans ((sq_nx (turn_held W F hi _)).trans ((ev_exp (ev_app rfl g2 rfl g2 ?_)).trans (congrArg (Out.nx _) (set_end hA _ _))))), ?_, _, _, _, rfl⟩
      · have e : w.ties.getD i [] = w.ties[i] := by rw [List.getD_eq_getElem?_getD, List.getElem?_eq_getElem ht]; rfl
        rw [e] at hq
        rw [F.len]; exact W.lt _ (List.getElem_mem ht) q hq
      · rw [List.length_map, List.length_map, List.length_range]; exact Nat.lt_of_lt_of_le hi (le30 hn)
      · rw [List.range_succ, List.map_append, List.map_append]; rfl) ⟨rfl, _, _, _, rfl⟩
  have e0 : 0 + ((List.range n).map fun k : Nat => D.int k).length = n := by rw [List.length_map, List.length_range, Nat.zero_add]
  rw [e0] at h2
  rw [h2, h3] at h1
  have hl : (s.map D.int).length = n := by rw [List.length_map, F.len]
  refine (fn_rt (σ := [some w.enc, some (encI s), none, none, none, none]) rfl rfl ((sq_nx (ev_set (new_end hA (xs := []) rfl (Nat.zero_le _)))).trans ((sq_nx (ev_for (ev_range (ev_len (ev_lof rfl rfl)) (by rw [hl]; exact le30 hn)) (by rw [hl]; exact h1))).trans (ev_ret (ev_tupL (ev_lof rfl (ev_seq (get_end hA _)))))))).trans (letGo_pure (pures_ints _))
end Fm
set_option linter.all false
namespace Fm
theorem exc_go {n np : Nat} {b : SF} {ds : List D} {h h' : Hd} {σ σ' : Sd} {x : D} (hl : ds.length = np) (st : (ds.map some ++ List.replicate (n - ds.length) none : Sd) = σ) (e : b σ h = .exc x σ' h') : mkFn np n b ds h = .exc x h' := by
  unfold mkFn runB
  rw [if_pos hl, st, e]
  rfl
theorem seq_exc {a b : SF} {σ σ' : Sd} {h h' : Hd} {x : D} (e : a σ h = .exc x σ' h') : sSeq a b σ h = .exc x σ' h' := by simp only [sSeq, e]
theorem ifx_no {t : TF} {a b : SF} {σ : Sd} {h h' : Hd} (e : t σ h = .ok false h') : sIfX t a b σ h = b σ h' := by unfold sIfX; rw [e]; rfl
theorem ifx_exc {t : TF} {c : String} {b : SF} {σ : Sd} {h h' : Hd} (e : t σ h = .ok true h') : sIfX t (sRaise c) b σ h = .exc (.exn c []) σ h' := by unfold sIfX; rw [e]; rfl
theorem call_exc {F : Fn} {r : LF} {σ : Sd} {h h1 h' : Hd} {ds : List D} {x : D} (a : r σ h = .ok ds h1) (b : F ds h1 = .exc x h') : fCall F r σ h = .exc x h' := by
  show Res.bind _ _ = _; rw [a]; exact b
theorem exp_exc {e : EF} {σ : Sd} {h h' : Hd} {x : D} (p : e σ h = .exc x h') : sExp e σ h = .exc x σ h' := by show outE _ _ _ = _; rw [p]; rfl
theorem forL_rt {g : Option Nat} {all : List D} {tg : GF} {b : SF} {x : D} {xs : List D} {σ σ' : Sd} {h h' : Hd} {d : D} (hh : held g all h) (t : tg x σ = some σ') (e : b σ' h = .rt d h') : forL g all tg b (x :: xs) σ h = .rt d h' := by
  rw [forL, if_pos hh, t]; simp only [e]
theorem forL_nx {g : Option Nat} {all : List D} {tg : GF} {b : SF} {x : D} {xs : List D} {σ σ' σ'' : Sd} {h h' : Hd} (hh : held g all h) (t : tg x σ = some σ') (e : b σ' h = .nx σ'' h') : forL g all tg b (x :: xs) σ h = forL g all tg b xs σ'' h' := by
  rw [forL, if_pos hh, t]; simp only [e]
theorem ifx_t {t : TF} {a b : SF} {σ : Sd} {h h' : Hd} (e : t σ h = .ok true h') : sIfX t a b σ h = a σ h' := by unfold sIfX; rw [e]; rfl
theorem forL_exc {g : Option Nat} {all : List D} {tg : GF} {b : SF} {x y : D} {xs : List D} {σ σ' σ'' : Sd} {h h' : Hd} (hh : held g all h) (t : tg x σ = some σ') (e : b σ' h = .exc y σ'' h') : forL g all tg b (x :: xs) σ h = .exc y σ'' h' := by
  rw [forL, if_pos hh, t]; simp only [e]
noncomputable def NoOp (d : D) (h : Hd) : Prop := F_is_opinion [d] h = .ok (.bl false) h
noncomputable def ds8 : List D := [.int 2, .int (-1), .bl true, .bl false, .non, .str [49], .int (10 ^ 59), .tup [.int 0]]
theorem noop_of {d : D} {h : Hd} (e : F_is_whole [d] h = .ok (.bl false) h) : NoOp d h :=
  (fn_rt rfl rfl (ev_ret (ev_call (ev_cons rfl (ev_2 rfl rfl)) ((fn_rt rfl rfl (ev_ret (ev_fT (ev_andf (ev_b (ev_call (ev_cons rfl rfl) e)))))).trans letGo_self)))).trans letGo_self
theorem noop_bl (b : Bool) (h : Hd) : NoOp (.bl b) h := noop_of ((fn_rt rfl rfl (ev_ret (ev_fT (ev_and (ev_b rfl) (ev_not (b := true) (ev_b rfl)))))).trans letGo_self)
theorem noop_ty {d : D} {h : Hd} (e : fIsTy .int (fVar 0) [some d] h = .ok (.bl false) h) : NoOp d h := noop_of ((fn_rt rfl rfl (ev_ret (ev_fT (ev_andf (ev_b e))))).trans letGo_self)
theorem noop8 {d : D} (hd : d ∈ ds8) (h : Hd) : NoOp d h := by
  rcases hd with _ | ⟨_, _ | ⟨_, _ | ⟨_, _ | ⟨_, _ | ⟨_, _ | ⟨_, _ | ⟨_, _ | ⟨_, hd⟩⟩⟩⟩⟩⟩⟩⟩
  · exact is_opinion_int 2 h
  · exact is_opinion_int (-1) h
  · exact noop_bl _ h
  · exact noop_bl _ h
  · exact noop_ty rfl
  · exact noop_ty rfl
  · exact (is_opinion_int _ h).trans (by rw [decide_eq_false (show ¬ (10 : Int) ^ 59 ≤ 1 by decide), Bool.and_false])
  · exact noop_ty rfl
  · cases hd
theorem op_ok {v : Int} (hv : v = 0 ∨ v = 1) (h : Hd) : F_is_opinion [.int v] h = .ok (.bl true) h := by
  rw [is_opinion_int]; rcases hv with rfl | rfl <;> rfl
noncomputable def Good (w : Web) (i : Nat) (x : D) : Prop := ∃ v : Int, x = .int v ∧ (v = 0 ∨ v = 1) ∧ (w.stays[i]? = some none ∨ w.stays[i]? = some (some v))
noncomputable def Bad (w : Web) (i : Nat) (x : D) (h : Hd) : Prop := NoOp x h ∨ ∃ v z : Int, x = .int v ∧ (v = 0 ∨ v = 1) ∧ w.stays[i]? = some (some z) ∧ v ≠ z
theorem fits_go {w : Web} {T x : D} {i : Nat} (g : Good w i x) (c : Option D) (h : Hd) : ∃ c', B0_fits [some w.enc, some T, some (.int i), some x, c] h = .nx [some w.enc, some T, some (.int i), some x, c'] h := by
  obtain ⟨v, rfl, hv, hs⟩ := g
  have s1 : sIf (tNot (tE (fCall F_is_opinion (aCons (fVar 3) aNil)))) (sRet (fC (.bl false))) sNil [some w.enc, some T, some (.int i), some (.int v), c] h = .nx [some w.enc, some T, some (.int i), some (.int v), c] h := ev_f (ev_not (ev_b (ev_call (ev_cons rfl rfl) (op_ok hv h))))
  rcases hs with hs | hs
  · exact ⟨_, (sq_nx s1).trans ((sq_nx (ev_set (ev_call (ev_cons rfl (ev_cons rfl rfl)) (stay_of_web w h hs)))).trans (ev_f (ev_andf (ev_b (ev_bin rfl rfl rfl)))))⟩
  · exact ⟨_, (sq_nx s1).trans ((sq_nx (ev_set (ev_call (ev_cons rfl (ev_cons rfl rfl)) (stay_of_web w h hs)))).trans (ev_f (ev_and (ev_b (ev_bin rfl rfl rfl)) (ev_b (ev_bin rfl rfl (by rw [show encO (some v) = D.int v from rfl, oNe_ii, decide_eq_true rfl]; rfl))))))⟩
theorem fits_stop {w : Web} {T x : D} {i : Nat} {h : Hd} (b : Bad w i x h) (c : Option D) : B0_fits [some w.enc, some T, some (.int i), some x, c] h = .rt (.bl false) h := by
  rcases b with no | ⟨v, z, rfl, hv, hs, ne⟩
  · exact sq_rt ((ev_t (ev_not (ev_b (ev_call (ev_cons rfl rfl) no)))).trans (ev_ret rfl))
  · have s1 : sIf (tNot (tE (fCall F_is_opinion (aCons (fVar 3) aNil)))) (sRet (fC (.bl false))) sNil [some w.enc, some T, some (.int i), some (.int v), c] h = .nx [some w.enc, some T, some (.int i), some (.int v), c] h := ev_f (ev_not (ev_b (ev_call (ev_cons rfl rfl) (op_ok hv h))))
    exact (sq_nx s1).trans ((sq_nx (ev_set (ev_call (ev_cons rfl (ev_cons rfl rfl)) (stay_of_web w h hs)))).trans ((ev_t (ev_and (ev_b (ev_bin rfl rfl rfl)) (ev_b (ev_bin rfl rfl (by rw [show encO (some z) = D.int z from rfl, oNe_ii, decide_eq_false ne]; rfl))))).trans (ev_ret rfl)))
theorem fits_loop {w : Web} {T : D} {h : Hd} (all : List D) : ∀ (M : List D) (k : Nat) (a b c : Option D), (∀ i x, M[i]? = some x → Good w (k + i) x ∨ Bad w (k + i) x h) → (∃ i x, M[i]? = some x ∧ Bad w (k + i) x h) →
    forL none all (gT [2, 3]) B0_fits (((List.range' k M.length).zip M).map fun p => D.tup [.int (p.1 : Nat), p.2]) [some w.enc, some T, a, b, c] h = .rt (.bl false) h
  | [], k, a, b, c, _, ⟨i, x, e, _⟩ => by cases i <;> cases e
  | x :: M, k, a, b, c, al, ⟨i, y, e, bd⟩ => by
    rw [List.length_cons, List.range'_succ, List.zip_cons_cons, List.map_cons]
    by_cases bx : Bad w k x h
    · exact forL_rt (by trivial) rfl (fits_stop bx c)
    · have g : Good w k x := ((al 0 x rfl).resolve_right bx)
      obtain ⟨c', q⟩ := fits_go (T := T) g c h
      refine (forL_nx (by trivial) rfl q).trans (fits_loop all M (k + 1) _ _ _ (fun i x e => ?_) ?_)
      · have := al (i + 1) x e
        rwa [← Nat.add_assoc, Nat.add_right_comm] at this
      · cases i with
        | zero => cases e; exact absurd bd bx
        | succ i => exact ⟨i, y, e, by rwa [← Nat.add_assoc, Nat.add_right_comm] at bd⟩
theorem fits_no {w : Web} {n : Nat} (W : w.Ok n) {L : List D} (hl : L.length = n) {h : Hd} (al : ∀ i x, L[i]? = some x → Good w i x ∨ Bad w i x h) (ex : ∃ i x, L[i]? = some x ∧ Bad w i x h) : F_fits [w.enc, .tup L] h = .ok (.bl false) h := by
  have lp := fits_loop (T := .tup L) (((List.range L.length).zip L).map fun p => D.tup [.int (p.1 : Nat), p.2]) L 0 none none none (fun i x e => by rw [Nat.zero_add]; exact al i x e) (by obtain ⟨i, x, e, b⟩ := ex; exact ⟨i, x, e, by rw [Nat.zero_add]; exact b⟩)
  rw [← List.range_eq_range'] at lp
  have s1 : sIf (tOr (tNot (tE (fIsTy .tuple (fVar 1)))) (tE (fBin oNe (fLen (lOf (fVar 1))) (fCall F_many_of (aCons (fVar 0) aNil))))) (sRet (fC (.bl false))) sNil [some w.enc, some (.tup L), none, none, none] h = .nx [some w.enc, some (.tup L), none, none, none] h :=
    ev_f (ev_or (ev_not (b := true) (ev_b rfl)) (ev_b (ev_bin (ev_len (ev_lof rfl rfl)) (ev_call (ev_cons rfl rfl) (many_of_web w h)) (by rw [oNe_ii, hl, W.t, decide_eq_true rfl]; rfl))))
  exact (fn_rt rfl rfl ((sq_nx s1).trans (sq_rt (ev_for rfl lp)))).trans letGo_self
theorem fits_kind {w : Web} {d : D} {h : Hd} (e : isTy h .tuple d = some false) : F_fits [w.enc, d] h = .ok (.bl false) h := by
  have q : fIsTy .tuple (fVar 1) [some w.enc, some d, none, none, none] h = .ok (.bl false) h := by
    show Res.bind (.ok d h) _ = _
    simp only [bind_ok, e]
  exact (fn_rt rfl rfl (sq_rt ((ev_t (ev_ort (ev_not (ev_b q)))).trans (ev_ret rfl)))).trans letGo_self
theorem fits_long {w : Web} {n : Nat} (W : w.Ok n) {l : List D} (hl : l.length ≠ n) (h : Hd) : F_fits [w.enc, .tup l] h = .ok (.bl false) h := by
  have s1 : sIf (tOr (tNot (tE (fIsTy .tuple (fVar 1)))) (tE (fBin oNe (fLen (lOf (fVar 1))) (fCall F_many_of (aCons (fVar 0) aNil))))) (sRet (fC (.bl false))) sNil [some w.enc, some (.tup l), none, none, none] h = .rt (.bl false) h :=
    (ev_t (ev_or (ev_not (b := true) (ev_b rfl)) (ev_b (ev_bin (ev_len (ev_lof rfl rfl)) (ev_call (ev_cons rfl rfl) (many_of_web w h)) (by rw [oNe_ii, W.t, decide_eq_false (show ¬ (l.length : Int) = (n : Int) from fun z => hl (Int.ofNat.inj z))]; rfl))))).trans (ev_ret rfl)
  exact (fn_rt rfl rfl (sq_rt s1)).trans letGo_self
noncomputable abbrev NSx : D := .exn "NoStand" []
theorem checkY_ok {w : Web} {d : D} {h : Hd} (e : F_fits [w.enc, d] h = .ok (.bl true) h) : FY_check_stand [w.enc, d] h = .ok .non h :=
  (fn_nx rfl rfl (ifx_no (ev_not (ev_b (ev_call (ev_cons rfl (ev_cons rfl rfl)) e))))).trans letGo_self
theorem checkY_no {w : Web} {d : D} {h : Hd} (e : F_fits [w.enc, d] h = .ok (.bl false) h) : FY_check_stand [w.enc, d] h = .exc NSx h :=
  exc_go rfl rfl (ifx_exc (ev_not (ev_b (ev_call (ev_cons rfl (ev_cons rfl rfl)) e))))
theorem ref_rt {i : Nat} {b : SF} {n : String} {l : List D} {σ σ' : Sd} {h h' : Hd} (e : b (σ.set i (some .non)) h = .exc (.exn n l) σ' h') : sRef i b n σ h = .rt (.bl true) h' := by
  unfold sRef; rw [e]; exact if_pos rfl
theorem cut_take (l : List D) {p : Nat} (hp : p < l.length) : cut l none (some (p : Int)) = l.take p := by
  unfold cut
  show List.take (sIx l.length l.length (some (p : Int)) - 0) (l.drop 0) = _
  have e : sIx l.length l.length (some (p : Int)) = p := by
    show (if (p : Int) < 0 then ((p : Int) + (l.length : Nat)).toNat else min ((p : Int)).toNat l.length) = p
    rw [if_neg (Int.not_lt.mpr (Int.natCast_nonneg p))]
    exact Nat.min_eq_left (Nat.le_of_lt hp)
  rw [e]; rfl
theorem cut_drop (l : List D) {p : Nat} (hp : p < l.length) : cut l (some ((p : Int) + 1)) none = l.drop (p + 1) := by
  have e : sIx l.length 0 (some ((p : Int) + 1)) = p + 1 := by
    show (if ((p : Int) + 1) < 0 then ((p : Int) + 1 + (l.length : Nat)).toNat else min ((p : Int) + 1).toNat l.length) = p + 1
    rw [if_neg (show ¬ ((p : Int) + 1 < 0) by omega)]
    exact Nat.min_eq_left hp
  unfold cut
  rw [e]
  exact List.take_of_length_le (by rw [List.length_drop]; exact Nat.le_refl _)
theorem slice_take {a : EF} {hi : EF} {σ : Sd} {h : Hd} {l : List D} {p : Nat} (v : a σ h = .ok (.tup l) h) (w : hi σ h = .ok (.int p) h) (hp : p < l.length) : fSlice a pNo (pAt hi) σ h = .ok (.tup (l.take p)) h := by
  have c := cut_take l hp
  have e : sIx l.length l.length (some (p : Int)) = p := by
    show (if (p : Int) < 0 then ((p : Int) + (l.length : Nat)).toNat else min ((p : Int)).toNat l.length) = p
    rw [if_neg (Int.not_lt.mpr (Int.natCast_nonneg p))]
    exact Nat.min_eq_left (Nat.le_of_lt hp)
  simp only [fSlice, v, bind_ok, pNo, pAt, w, c, e]
  rw [if_neg (fun z => Nat.ne_of_lt hp z.2)]
theorem slice_drop {a : EF} {lo : EF} {σ : Sd} {h : Hd} {l : List D} {p : Nat} (v : a σ h = .ok (.tup l) h) (w : lo σ h = .ok (.int ((p : Int) + 1)) h) (hp : p < l.length) : fSlice a (pAt lo) pNo σ h = .ok (.tup (l.drop (p + 1))) h := by
  have c := cut_drop l hp
  have e : sIx l.length 0 (some ((p : Int) + 1)) = p + 1 := by
    show (if ((p : Int) + 1) < 0 then ((p : Int) + 1 + (l.length : Nat)).toNat else min ((p : Int) + 1).toNat l.length) = p + 1
    rw [if_neg (show ¬ ((p : Int) + 1 < 0) by omega)]
    exact Nat.min_eq_left hp
  simp only [fSlice, v, bind_ok, pNo, pAt, w, c, e]
  rw [if_neg (fun z => absurd z.1 (Nat.succ_ne_zero p))]
theorem bad_fits {w : Web} {n : Nat} (W : w.Ok n) {s : List Int} (F : Fits w n s) {p : Nat} (hp : p < n) {d : D} {h : Hd} (b : Bad w p d h) : F_fits [w.enc, .tup ((s.map D.int).take p ++ [d] ++ (s.map D.int).drop (p + 1))] h = .ok (.bl false) h := by
  have hl : (s.map D.int).length = n := by rw [List.length_map, F.len]
  have lt : ((s.map D.int).take p).length = p := by rw [List.length_take, hl]; exact Nat.min_eq_left (Nat.le_of_lt hp)
  have good : ∀ i x, (s.map D.int)[i]? = some x → Good w i x := fun i x e => by
    have hi : i < s.length := by rw [← List.length_map (f := D.int)]; exact (List.getElem?_eq_some_iff.mp e).1
    rw [List.getElem?_map, List.getElem?_eq_getElem hi] at e
    cases e
    have h2 : i < w.stays.length := by rw [W.s, ← F.len]; exact hi
    refine ⟨s[i], rfl, F.op _ (List.getElem_mem hi), ?_⟩
    rw [List.getElem?_eq_getElem h2]
    cases c : w.stays[i] with
    | none => exact .inl rfl
    | some z =>
      have := F.st i z (by rw [List.getElem?_eq_getElem h2, c])
      rw [List.getElem?_eq_getElem hi] at this
      cases this
      exact .inr rfl
  refine fits_no W ?_ (fun i x e => ?_) ⟨p, d, ?_, b⟩
  · rw [List.length_append, List.length_append, lt, List.length_drop, hl]
    show p + 1 + (n - (p + 1)) = n
    exact Nat.add_sub_of_le hp
  · rw [List.append_assoc] at e
    by_cases i1 : i < p
    · rw [List.getElem?_append_left (by rw [lt]; exact i1), List.getElem?_take_of_lt i1] at e
      exact .inl (good i x e)
    · rw [List.getElem?_append_right (by rw [lt]; exact Nat.not_lt.mp i1), lt] at e
      by_cases i2 : i = p
      · rw [i2, Nat.sub_self] at e
        cases e
        rw [i2]; exact .inr b
      · obtain ⟨k, rfl⟩ := Nat.exists_eq_add_of_lt (Nat.lt_of_le_of_ne (Nat.not_lt.mp i1) (Ne.symm i2))
        rw [show p + k + 1 - p = k + 1 by omega] at e
        have e : ((s.map D.int).drop (p + 1))[k]? = some x := e
        rw [List.getElem?_drop] at e
        exact .inl (good _ x (by rw [show p + k + 1 = p + 1 + k by omega]; exact e))
  · rw [List.append_assoc, List.getElem?_append_right (by rw [lt]; exact Nat.le_refl _), lt, Nat.sub_self]; rfl
end Fm
set_option linter.all false
namespace Fm
noncomputable def Nf (w : Web) (h : Hd) (d : D) : Prop := (∀ g, F_fits [w.enc, d] g = .ok (.bl false) g) ∨ ∃ k l, d = .ref k ∧ h[k]? = some (.lst l)
theorem Nf.fits {w : Web} {h : Hd} {d : D} (f : Nf w h d) : F_fits [w.enc, d] h = .ok (.bl false) h := by
  rcases f with f | ⟨k, l, rfl, e⟩
  · exact f h
  · exact fits_kind (by simp only [isTy, e]; rfl)
theorem Nf.more {w : Web} {h : Hd} {d : D} (f : Nf w h d) (g : Hd) : Nf w (h ++ g) d := f.imp id fun ⟨k, l, e, q⟩ => ⟨k, l, e, app_at _ q⟩
theorem letGo_app {h g : Hd} {d : D} : ∃ g', letGo h (.ok d (h ++ g)) = .ok d (h ++ g') ∧ (g' = g ∨ pure? d = true) := by
  unfold letGo
  simp only
  split
  · rename_i z
    exact ⟨[], by rw [List.take_left, List.append_nil], .inr z.1⟩
  · exact ⟨g, rfl, .inl rfl⟩
theorem ev_addT {xs ys : List D} {h : Hd} (p : xs.length + ys.length ≤ SZ) : oAddT (.tup xs) (.tup ys) h = .ok (.tup (xs ++ ys)) h := by simp only [oAddT, if_pos p]
theorem ev_add1 {xs ys : List D} {h : Hd} (q : 0 < xs.length) (p : xs.length + ys.length ≤ SZ) : oAdd (.tup xs) (.tup ys) h = .ok (.tup (xs ++ ys)) h := by
  cases xs with
  | nil => cases q
  | cons x xs => exact if_pos p
theorem ev_catE {a b : EF} {σ : Sd} {h h1 h2 : Hd} {n m : Nat} {l k : List D} (p : a σ h = .ok (.ref n) h1) (q : b σ h1 = .ok (.ref m) h2) (r : h2[n]? = some (.lst l)) (s : h2[m]? = some (.lst k)) (t : l.length + k.length ≤ SZ) : lCatE a b σ h = .ok (l ++ k) h2 := by
  simp only [lCatE, p, bind_ok, q, r, s, if_pos t]
theorem nat_mod (x : Int) {m : Nat} (hm : 1 ≤ m) : ∃ q : Nat, x % m = q ∧ q < m := ⟨(x % m).toNat, by have := Int.emod_nonneg x (show (m : Int) ≠ 0 by omega); omega, by have := Int.emod_lt_of_pos x (show (0 : Int) < m by omega); omega⟩
section
variable {w : Web} {n : Nat} {s : List Int}
noncomputable def bent (s : List Int) (p : Nat) (d : D) : D := .tup ((s.map D.int).take p ++ [d] ++ (s.map D.int).drop (p + 1))
theorem bent_ev {i j : EF} {e : EF} {σ : Sd} {h h' : Hd} {p : Nat} {d : D} (ls : s.length = n) (hn : n ≤ 30) (hp : p < n) (v : ∀ h, fVar 1 σ h = .ok (encI s) h) (vi : ∀ h, i σ h = .ok (.int p) h) (vj : ∀ h, j σ h = .ok (.int ((p : Int) + 1)) h) (ve : e σ h = .ok d h') :
    fBin oAddT (fBin oAddT (fSlice (fVar 1) pNo (pAt i)) (fTup (aCons e aNil))) (fSlice (fVar 1) (pAt j) pNo) σ h = .ok (bent s p d) h' := by
  have hl : (s.map D.int).length = n := by rw [List.length_map, ls]
  have z1 : ((s.map D.int).take p).length + 1 ≤ SZ := Nat.le_trans (Nat.succ_le_succ (Nat.le_trans (List.length_take_le' _ _) (Nat.le_trans (Nat.le_of_eq hl) hn))) (by decide)
  have z2 : ((s.map D.int).take p ++ [d]).length + ((s.map D.int).drop (p + 1)).length ≤ SZ := by
    rw [List.length_append, List.length_drop, hl]
    exact Nat.le_trans (Nat.add_le_add (Nat.succ_le_succ (Nat.le_trans (List.length_take_le' _ _) (Nat.le_trans (Nat.le_of_eq hl) hn))) (Nat.le_trans (Nat.sub_le _ _) hn)) (by decide)
  exact ev_bin (ev_bin (slice_take (v h) (vi h) (by rw [hl]; exact hp)) (ev_tup (ev_cons ve rfl)) (ev_addT z1)) (slice_drop (v h') (vj h') (by rw [hl]; exact hp)) (ev_addT z2)
theorem bent_no (W : w.Ok n) (F : Fits w n s) {p : Nat} (hp : p < n) {d : D} (b : ∀ h, Bad w p d h) (h : Hd) : Nf w h (bent s p d) := .inl fun g => bad_fits W F hp (b g)
noncomputable abbrev XN0 (w : Web) (s : List Int) (c : Int) (a b y e f : Option D) : Sd := [some w.enc, some (encI s), some (.int c), a, b, y, e, f]
noncomputable abbrev XN1 (w : Web) (s : List Int) (c : Int) (p A : Nat) (y e f : Option D) : Sd := XN0 w s c (some (.int p)) (some (.ref (A + 2))) y e f
noncomputable abbrev NBE : EF := fBin oAddT (fBin oAddT (fSlice (fVar 1) pNo (pAt (fVar 7))) (fTup (aCons (fBin oSub (fC (.int 1)) (fAt (fVar 1) (fVar 7))) aNil))) (fSlice (fVar 1) (pAt (fBin oAdd (fVar 7) (fC (.int 1)))) pNo)
noncomputable abbrev NRP : EF := fNew (lRep (aCons NBE aNil) (fC (.int 9)))
noncomputable abbrev NT7 : EF := fAt (fVar 6) (fBin oMod (fBin oDiv (fVar 2) (fC (.int 31))) (fLen (lOf (fVar 6))))
noncomputable abbrev NTS : List TF := [(tE (fBin oIsNotN (fAt (fAt (fVar 1) (fC (.int 2))) (fVar 0)) (fC .non)))]
theorem cut_neg {l : List D} {n : Nat} (hl : l.length = n) (n1 : 1 ≤ n) : (cut l none (some (-1))).length ≠ n ∧ sIx l.length l.length (some (-1)) ≠ l.length := by
  have e : sIx n n (some (-1)) = n - 1 := by
    show (if (-1 : Int) < 0 then ((-1 : Int) + (n : Nat)).toNat else min (-1 : Int).toNat n) = n - 1
    rw [if_pos (by decide)]; omega
  have ne : n - 1 ≠ n := Nat.ne_of_lt (Nat.sub_lt n1 Nat.one_pos)
  rw [hl, e]
  refine ⟨?_, ne⟩
  unfold cut
  rw [hl, e, List.length_take, List.length_drop, hl]
  show min (n - 1 - 0) (n - 0) ≠ n
  rw [Nat.sub_zero, Nat.sub_zero, Nat.min_eq_left (Nat.sub_le n 1)]; exact ne
theorem nat_ne_two {n : Nat} (n1 : 1 ≤ n) : n + n ≠ n := Nat.ne_of_gt (Nat.lt_add_of_pos_left n1)
theorem none_ok (W : w.Ok n) (S : StayOk w) (F : Fits w n s) (n1 : 1 ≤ n) (hn : n ≤ 30) (c : Int) (h : Hd) :
    ∃ d g, F_l_none [w.enc, encI s, .int c] h = .ok d (h ++ g) ∧ Nf w (h ++ g) d := by
  obtain ⟨A, hA⟩ : ∃ A, A = h.length := ⟨_, rfl⟩
  have ls := F.len
  have hl : (s.map D.int).length = n := by rw [List.length_map, ls]
  have z30 : (s.map D.int).length ≤ SZ := by rw [hl]; exact le30 hn
  obtain ⟨p, hp, pn⟩ := nat_mod c n1
  have ln : ∀ (σ : Sd) (g : Hd), fVar 1 σ g = .ok (encI s) g → fLen (lOf (fVar 1)) σ g = .ok (.int n) g := fun σ g v => (ev_len (ev_lof v rfl)).trans (by rw [hl])
  obtain ⟨G, hG⟩ : ∃ G : List Cell, G = [.lst (s.map .int), .lst [encI s]] := ⟨_, rfl⟩
  obtain ⟨l9, hl9⟩ : ∃ l9 : List D, l9 = [.ref A, .tup (s.map D.int ++ [.int 0]), .tup (cut (s.map D.int) none (some (-1))), .non, .int 1, .str [48, 49], .tup [], .ref (A + 1), .tup (s.map D.int ++ s.map D.int)] := ⟨_, rfl⟩
  have lM := cut_neg hl n1
  have nf9 : ∀ d ∈ l9, Nf w (h ++ G) d := by
    intro d hd
    rw [hl9] at hd
    simp only [List.mem_cons, List.not_mem_nil, or_false] at hd
    rcases hd with rfl | rfl | rfl | rfl | rfl | rfl | rfl | rfl | rfl
    · exact .inr ⟨_, _, rfl, by rw [hG]; exact at_pre' hA 0⟩
    · exact .inl fun g => fits_long W (by rw [List.length_append, hl]; exact Nat.succ_ne_self n) g
    · exact .inl fun g => fits_long W lM.1 g
    · exact .inl fun g => fits_kind rfl
    · exact .inl fun g => fits_kind rfl
    · exact .inl fun g => fits_kind rfl
    · exact .inl fun g => fits_long (l := []) W (show 0 ≠ n from Nat.ne_of_lt n1) g
    · exact .inr ⟨_, _, rfl, by rw [hG]; exact at_pre' hA 1⟩
    · exact .inl fun g => fits_long W (by rw [List.length_append, hl]; exact nat_ne_two n1) g
  have s3 : sSet (gN 3) (fBin oMod (fVar 2) (fLen (lOf (fVar 1)))) (XN0 w s c none none none none none) h = .nx (XN0 w s c (some (.int p)) none none none none) h := by
    rw [← hp]; exact ev_set (ev_bin rfl (ln _ _ rfl) (ev_mod (Int.natCast_pos.mpr n1)))
  have s4 : sSet (gN 4) (fNew (aCons (fNew (lOf (fVar 1))) (aCons (fBin oAdd (fVar 1) (fTup (aCons (fC (.int 0)) aNil))) (aCons (fSlice (fVar 1) pNo (pAt (fC (.int (-1))))) (aCons (fC .non) (aCons (fC (.int 1)) (aCons (fC (.str [48, 49])) (aCons (fTup aNil) (aCons (fNew (aCons (fVar 1) aNil)) (aCons (fBin oAdd (fVar 1) (fVar 1)) aNil)))))))))) (XN0 w s c (some (.int p)) none none none none) h
      = .nx (XN1 w s c p A none none none) (h ++ (G ++ [.lst l9])) := by
    have f1 : fNew (lOf (fVar 1)) (XN0 w s c (some (.int p)) none none none none) h = .ok (.ref A) (h ++ [.lst (s.map .int)]) := new_end hA (ev_lof rfl rfl) z30
    have f2 : ∀ g, fBin oAdd (fVar 1) (fTup (aCons (fC (.int 0)) aNil)) (XN0 w s c (some (.int p)) none none none none) g = .ok (.tup (s.map D.int ++ [.int 0])) g := fun g => ev_bin rfl (ev_tup (ev_cons rfl rfl)) (ev_add1 (by rw [hl]; exact n1) (by rw [hl]; exact Nat.le_trans (Nat.succ_le_succ hn) (by decide)))
    have f3 : ∀ g, fSlice (fVar 1) pNo (pAt (fC (.int (-1)))) (XN0 w s c (some (.int p)) none none none none) g = .ok (.tup (cut (s.map D.int) none (some (-1)))) g := fun g => by
      show (if _ then _ else _) = _
      exact if_neg fun z => lM.2 z.2
    have f8 : fNew (aCons (fVar 1) aNil) (XN0 w s c (some (.int p)) none none none none) (h ++ [.lst (s.map .int)]) = .ok (.ref (A + 1)) (h ++ G) := by
      rw [hG]; exact ev_new' (g := [.lst (s.map .int)]) hA (ev_cons rfl rfl) (by exact of_decide_eq_true rfl)
    have f9 : ∀ g, fBin oAdd (fVar 1) (fVar 1) (XN0 w s c (some (.int p)) none none none none) g = .ok (.tup (s.map D.int ++ s.map D.int)) g := fun g => ev_bin rfl rfl (ev_add1 (by rw [hl]; exact n1) (by rw [hl]; exact Nat.le_trans (Nat.add_le_add hn hn) (by decide)))
    rw [hl9]
    have gl : A + 2 = A + G.length := by rw [hG]; rfl
    show _ = Out.nx (XN0 w s c (some (.int p)) (some (.ref (A + 2))) none none none) _
    rw [gl]
    exact ev_set (ev_new' (g := G) hA (ev_cons f1 (ev_cons (f2 _) (ev_cons (f3 _) (ev_cons rfl (ev_cons rfl (ev_cons rfl (ev_cons (ev_tup rfl) (ev_cons f8 (ev_cons (f9 _) rfl))))))))) (by exact of_decide_eq_true rfl))
  obtain ⟨σ5, h5, k5, Ls, y5, e5, q5, nf5, l5⟩ := forL_next (P := fun i σ h' => ∃ (Ls : List D) (y : Option D), σ = XN0 w s c (some (.int p)) (some (.ref (A + 2))) y none none ∧ h' = h ++ (G ++ [.lst Ls]) ∧ (∀ d ∈ Ls, Nf w (h ++ G) d) ∧ Ls.length = 9 + i)
    (g := none) (k := 0) (all := ds8) (fun _ _ _ _ => trivial) (xs := ds8) (tg := gN 5) (b := B0_l_none) (σ := XN0 w s c (some (.int p)) (some (.ref (A + 2))) none none none) (h := h ++ (G ++ [.lst l9])) (by
      rintro i x σ h0 hx ⟨Ls, y, rfl, rfl, nf, ll⟩
      rw [Nat.zero_add] at ll
      have mx : x ∈ ds8 := List.mem_of_getElem? hx
      have hi : i < 8 := (List.getElem?_eq_some_iff.mp hx).1
      have g2 : (h ++ (G ++ [.lst Ls]))[A + 2]? = some (.lst Ls) := by rw [hG]; exact at_pre' hA 2
      refine ⟨_, rfl, XN0 w s c (some (.int p)) (some (.ref (A + 2))) (some x) none none, h ++ (G ++ [.lst (Ls ++ [bent s p x])]), (ev_exp (ev_app rfl g2 (bent_ev ls hn pn (fun _ => rfl) (fun _ => rfl) (fun _ => rfl) rfl) g2 (by rw [ll]; exact Nat.lt_of_lt_of_le (Nat.add_lt_add_left hi 9) (by decide)))).trans ?_, _, _, rfl, rfl, fun d hd => ?_, by rw [List.length_append, ll, Nat.zero_add]; rfl⟩
      · rw [hG]
        show Out.nx _ ((h ++ [Cell.lst (s.map .int), .lst [encI s], .lst Ls]).set (A + 2) _) = _
        rw [set_pre hA 2]; rfl
      · rcases List.mem_append.mp hd with hd | hd
        · exact nf d hd
        · rw [List.mem_singleton.mp hd]; exact bent_no W F pn (fun h => .inl (noop8 mx h)) _) ⟨l9, none, rfl, rfl, nf9, by rw [hl9]; rfl⟩
  rw [e5, q5] at k5
  have l5 : Ls.length = 17 := l5
  obtain ⟨St, hSt⟩ : ∃ St : List D, St = ((List.range n).map fun k : Nat => D.int k).filter fun d => match d with | .int k => !isNon (encO (w.stays.getD k.toNat none)) | _ => false := ⟨_, rfl⟩
  have c6 : ∀ g, compL none ((List.range n).map fun k : Nat => D.int k) (gN 0) NTS (fVar 0) ((List.range n).map fun k : Nat => D.int k) [none, some w.enc] g = .ok St g := fun g => by
    have := compL_pure (g := none) (all := (List.range n).map fun k : Nat => D.int k) (tg := gN 0) (cs := NTS) (e := fVar 0) (h := g) (I := fun σ => ∃ a, σ = [a, some w.enc]) (fun d => match d with | .int k => !isNon (encO (w.stays.getD k.toNat none)) | _ => false) (fun d => d) trivial (xs := (List.range n).map fun k : Nat => D.int k) (σ := [none, some w.enc]) (by
      rintro x hx σ ⟨a, rfl⟩
      obtain ⟨k, hk, rfl⟩ := List.mem_map.mp hx
      have hk := List.mem_range.mp hk
      have a1 : atI (w.stays.map encO) (k : Int) = some (encO (w.stays.getD k none)) := atI_nat (by rw [List.getElem?_map, List.getElem?_eq_getElem (W.s ▸ hk), List.getD_eq_getElem?_getD, List.getElem?_eq_getElem (W.s ▸ hk)]; rfl)
      exact ⟨_, rfl, ⟨_, rfl⟩, ev_tests1 (ev_b (ev_bin (ev_at (ev_at rfl rfl rfl rfl) rfl rfl a1) rfl rfl)), fun _ => rfl⟩) ⟨_, rfl⟩
    rw [this, List.map_id', hSt]
  have lSt : St.length ≤ n := by rw [hSt]; exact Nat.le_trans (List.length_filter_le _ _) (by rw [List.length_map, List.length_range]; exact Nat.le_refl _)
  have mSt : ∀ d ∈ St, ∃ q : Nat, d = .int q ∧ q < n ∧ ∃ z, w.stays[q]? = some (some z) := fun d hd => by
    rw [hSt] at hd
    obtain ⟨h1, h2⟩ := List.mem_filter.mp hd
    obtain ⟨q, hq, rfl⟩ := List.mem_map.mp h1
    have hq := List.mem_range.mp hq
    have h2 : (!isNon (encO (w.stays.getD q none))) = true := h2
    refine ⟨q, rfl, hq, ?_⟩
    rw [List.getElem?_eq_getElem (W.s ▸ hq)]
    rw [List.getD_eq_getElem?_getD, List.getElem?_eq_getElem (W.s ▸ hq), Option.getD_some] at h2
    cases e : w.stays[q]'(W.s ▸ hq) with
    | none => rw [e] at h2; cases h2
    | some z => exact ⟨z, rfl⟩
  obtain ⟨G6, hG6⟩ : ∃ G6 : List Cell, G6 = [.lst (s.map .int), .lst [encI s], .lst Ls, .lst St] := ⟨_, rfl⟩
  have s6 : sSet (gN 6) (fNew (lComp 1 [0] (iRange (fLen (lOf (fVar 1)))) (gN 0) NTS (fVar 0))) (XN1 w s c p A y5 none none) (h ++ (G ++ [.lst Ls])) = .nx (XN1 w s c p A y5 (some (.ref (A + 3))) none) (h ++ G6) := by
    rw [hG, hG6]
    exact ev_set (ev_new' (g := [.lst (s.map .int), .lst [encI s], .lst Ls]) hA (ev_comp (ev_range (ln _ _ rfl) (le30 hn)) (c6 _)) (Nat.le_trans lSt (le30 hn)))
  have s7 : ∃ (k : Nat) (L7 : List D) (f7 : Option D) (g7 : Hd), sIf (tE (fBin oNe (fVar 6) (fNew aNil))) (sSeq (sSet (gN 7) NT7)
      (sSet (gN 4) (fNew (lCatE (fVar 4) NRP)))) sNil (XN1 w s c p A y5 (some (.ref (A + 3))) none) (h ++ G6) = .nx (XN0 w s c (some (.int p)) (some (.ref k)) y5 (some (.ref (A + 3))) f7) (h ++ g7) ∧ (h ++ g7)[k]? = some (.lst L7) ∧ (∀ d ∈ L7, Nf w (h ++ g7) d) ∧ 1 ≤ L7.length := by
    have nw : fNew aNil (XN1 w s c p A y5 (some (.ref (A + 3))) none) (h ++ G6) = .ok (.ref (A + 4)) (h ++ (G6 ++ [.lst []])) := by
      rw [hG6]; exact ev_new' (g := [.lst (s.map .int), .lst [encI s], .lst Ls, .lst St]) (xs := []) hA rfl (Nat.zero_le _)
    have hsub : ∀ g : Hd, h ++ (G6 ++ g) = (h ++ G) ++ ([.lst Ls, .lst St] ++ g) := fun g => by rw [hG6, hG]; simp only [List.append_assoc, List.cons_append, List.nil_append]
    cases hS : St with
    | nil =>
      have on : oNe (.ref (A + 3)) (.ref (A + 4)) (h ++ (G6 ++ [.lst []])) = .ok (.bl false) (h ++ (G6 ++ [.lst []])) := by
        have a1 : (h ++ (G6 ++ [.lst []]))[A + 3]? = some (.lst []) := by rw [hG6, hS]; exact at_pre' hA 3
        have a2 : (h ++ (G6 ++ [.lst []]))[A + 4]? = some (.lst []) := by rw [hG6]; exact at_pre' hA 4
        simp only [oNe, eqG, lstOf, a1, a2]; rfl
      exact ⟨A + 2, Ls, none, _, ev_f (ev_b (ev_bin rfl nw on)), by rw [hG6]; exact at_pre' hA 2, fun d hd => by rw [hsub]; exact (nf5 d hd).more _, by rw [l5]; decide⟩
    | cons d0 r0 =>
      have lS1 : 1 ≤ St.length := by rw [hS]; exact Nat.succ_le_succ (Nat.zero_le _)
      have aS : (h ++ (G6 ++ [.lst []]))[A + 3]? = some (.lst St) := by rw [hG6]; exact at_pre' hA 3
      have dS : deps St ≤ 20 := by
        have : ∀ l : List D, (∀ d ∈ l, ∃ i : Int, d = .int i) → deps l = 0 := fun l => by
          induction l with
          | nil => intro _; rfl
          | cons d l ih =>
            intro h
            obtain ⟨i, rfl⟩ := h d List.mem_cons_self
            rw [deps, ih fun x hx => h x (List.mem_cons_of_mem _ hx)]; rfl
        rw [this St fun d hd => by obtain ⟨q, e, _⟩ := mSt d hd; exact ⟨_, e⟩]; exact Nat.zero_le _
      have on : oNe (.ref (A + 3)) (.ref (A + 4)) (h ++ (G6 ++ [.lst []])) = .ok (.bl true) (h ++ (G6 ++ [.lst []])) := by
        have a2 : (h ++ (G6 ++ [.lst []]))[A + 4]? = some (.lst []) := by rw [hG6]; exact at_pre' hA 4
        have e : eqL St [] = some false := by unfold eqL; rw [if_pos dS, hS]; rfl
        simp only [oNe, eqG, lstOf, aS, a2, e]; rfl
      obtain ⟨q, hq, qn⟩ := nat_mod (c / 31) lS1
      obtain ⟨sp, hsp, spn, z, hz⟩ := mSt St[q] (List.getElem_mem qn)
      have aq : atI St (c / 31 % (St.length : Int)) = some (.int sp) := by rw [hq]; exact atI_nat (by rw [List.getElem?_eq_getElem qn, hsp])
      have t1 : sSet (gN 7) NT7 (XN1 w s c p A y5 (some (.ref (A + 3))) none) (h ++ (G6 ++ [.lst []])) = .nx (XN1 w s c p A y5 (some (.ref (A + 3))) (some (.int sp))) (h ++ (G6 ++ [.lst []])) :=
        ev_set (ev_at rfl (ev_bin (ev_bin rfl rfl (ev_div (by decide) (by decide))) (ev_len (ev_lof rfl (ev_seq aS))) (ev_mod (Int.natCast_pos.mpr lS1))) (ev_seq aS) aq)
      have sv : atI (s.map D.int) (sp : Int) = some (.int (s.getD sp 0)) := getD_at (ls ▸ spn)
      obtain ⟨fl, hfl⟩ : ∃ fl, fl = bent s sp (.int (1 - s.getD sp 0)) := ⟨_, rfl⟩
      have be : NBE (XN1 w s c p A y5 (some (.ref (A + 3))) (some (.int sp))) (h ++ (G6 ++ [.lst []])) = .ok fl (h ++ (G6 ++ [.lst []])) := by
        rw [hfl]; exact bent_ev ls hn spn (fun _ => rfl) (fun _ => rfl) (fun _ => rfl) (ev_bin rfl (ev_at rfl rfl rfl sv) rfl)
      have sz : s[sp]? = some z := F.st sp z hz
      have gz : s.getD sp 0 = z := by rw [List.getD_eq_getElem?_getD, sz]; rfl
      have z01 : z = 0 ∨ z = 1 := by
        have := S _ (List.mem_of_getElem? hz)
        simp at this
        exact this
      have nfl : ∀ g, Nf w g fl := fun g => by
        rw [hfl, gz]
        refine bent_no W F spn (fun h => .inr ⟨1 - z, z, rfl, ?_, hz, ?_⟩) g
        · rcases z01 with rfl | rfl <;> decide
        · rcases z01 with rfl | rfl <;> decide
      have rp : NRP (XN1 w s c p A y5 (some (.ref (A + 3))) (some (.int sp))) (h ++ (G6 ++ [.lst []])) = .ok (.ref (A + 5)) (h ++ (G6 ++ [.lst [], .lst [fl, fl, fl, fl, fl, fl, fl, fl, fl]])) := by
        have ni : ∀ (σ : Sd) (g : Hd), aNil σ g = .ok [] g := fun _ _ => rfl
        have := ev_new' (h0 := h) (g := G6 ++ [.lst []]) hA (ev_rep (b := fC (.int 9)) (l := [fl]) (n := 9) (ev_cons be (ni _ _)) rfl ⟨by decide, by decide, by exact of_decide_eq_true rfl⟩) (by exact of_decide_eq_true rfl)
        rw [hG6] at this ⊢
        exact this
      have ct : lCatE (fVar 4) NRP (XN1 w s c p A y5 (some (.ref (A + 3))) (some (.int sp))) (h ++ (G6 ++ [.lst []])) = .ok (Ls ++ [fl, fl, fl, fl, fl, fl, fl, fl, fl]) (h ++ (G6 ++ [.lst [], .lst [fl, fl, fl, fl, fl, fl, fl, fl, fl]])) :=
        ev_catE rfl rp (by rw [hG6]; exact at_pre' hA 2) (by rw [hG6]; exact at_pre' hA 5) (by rw [l5]; exact of_decide_eq_true rfl)
      have t2 := ev_set (i := 4) (ev_new ct (by rw [List.length_append, l5]; exact of_decide_eq_true rfl))
      refine ⟨_, Ls ++ [fl, fl, fl, fl, fl, fl, fl, fl, fl], some (.int sp), (G6 ++ [.lst [], .lst [fl, fl, fl, fl, fl, fl, fl, fl, fl]]) ++ [.lst (Ls ++ [fl, fl, fl, fl, fl, fl, fl, fl, fl])], (ev_t (ev_b (ev_bin rfl nw on))).trans ((sq_nx t1).trans (t2.trans (by rw [List.append_assoc]; rfl))), by rw [← List.append_assoc]; exact List.getElem?_concat_length, fun d hd => ?_, by rw [List.length_append, l5]; exact of_decide_eq_true rfl⟩
      rcases List.mem_append.mp hd with hd | hd
      · rw [List.append_assoc, hsub]; exact (nf5 d hd).more _
      · have : d = fl := by simp at hd; exact hd
        rw [this]; exact nfl _
  obtain ⟨k, L7, f7, g7, e7, gk, nf7, l7⟩ := s7
  obtain ⟨q, hq, qn⟩ := nat_mod (c / 997) l7
  have aq : atI L7 (c / 997 % (L7.length : Int)) = some L7[q] := by rw [hq]; exact atI_nat (List.getElem?_eq_getElem qn)
  have s8 : sRet (fAt (fVar 4) (fBin oMod (fBin oDiv (fVar 2) (fC (.int 997))) (fLen (lOf (fVar 4))))) (XN0 w s c (some (.int p)) (some (.ref k)) y5 (some (.ref (A + 3))) f7) (h ++ g7) = .rt L7[q] (h ++ g7) :=
    ev_ret (ev_at rfl (ev_bin (ev_bin rfl rfl (ev_div (by decide) (by decide))) (ev_len (ev_lof rfl (ev_seq gk))) (ev_mod (Int.natCast_pos.mpr l7))) (ev_seq gk) aq)
  have nfd := nf7 _ (List.getElem_mem qn)
  have it : iNew (aCons (fC (.int 2)) (aCons (fC (.int (-1))) (aCons (fC (.bl true)) (aCons (fC (.bl false)) (aCons (fC .non) (aCons (fC (.str [49])) (aCons (fBin oPow (fC (.int 10)) (fC (.int 59))) (aCons (fTup (aCons (fC (.int 0)) aNil)) aNil)))))))) (XN1 w s c p A none none none) (h ++ (G ++ [.lst l9])) = .ok (ds8, none) (h ++ (G ++ [.lst l9])) := by
    have s10 : sml 10 = true := by decide
    have pw : ∀ (σ : Sd) (g : Hd), fBin oPow (fC (.int 10)) (fC (.int 59)) σ g = .ok (.int (10 ^ 59)) g := fun σ g => by
      exact ev_bin rfl rfl (if_pos (e := .bad) (show (decide ((0 : Int) ≤ 59) && decide ((59 : Int) ≤ 1000000) && sml 10) = true by rw [s10]; rfl))
    show Res.bind _ _ = _
    rw [ev_cons rfl (ev_cons rfl (ev_cons rfl (ev_cons rfl (ev_cons rfl (ev_cons rfl (ev_cons (pw _ _) (ev_cons (ev_tup (ev_cons rfl rfl)) rfl)))))))]
    rfl
  obtain ⟨g', lg, og⟩ := letGo_app (h := h) (g := g7) (d := L7[q])
  refine ⟨L7[q], g', ?_, ?_⟩
  · unfold F_l_none
    refine (fn_rt (σ := XN0 w s c none none none none none) rfl rfl ?_).trans lg
    rw [sq_nx s3, sq_nx s4, sq_nx (ev_for it k5), sq_nx s6, sq_nx e7]
    exact s8
  · rcases og with rfl | og
    · exact nfd
    · rcases nfd with nfd | ⟨k, l, e, _⟩
      · exact .inl nfd
      · rw [e] at og; cases og
end
end Fm
set_option linter.all false
namespace Fm
theorem peqs_encs : ∀ (ss : List (List Int)), peqs (ss.map encI) (ss.map encI) = some true
  | [] => rfl
  | x :: l => by
    have h := peq_enc (a := x) (b := x) rfl
    rw [decide_eq_true rfl] at h
    simp only [List.map_cons, peqs, peqs_encs l, h]; rfl
theorem deps_encs : ∀ (ss : List (List Int)), deps (ss.map encI) ≤ 20
  | [] => Nat.zero_le _
  | x :: l => by
    simp only [List.map_cons, deps, dep_enc]
    exact Nat.max_le.mpr ⟨by decide, deps_encs l⟩
theorem eqL_encs (ss : List (List Int)) : eqL (ss.map encI) (ss.map encI) = some true := by
  unfold eqL
  rw [if_pos (deps_encs ss), if_pos rfl, peqs_encs]
theorem ev_pl {α : Type} {f : Sd → Hd → Res α} {σ : Sd} {h h' : Hd} {x : α} (p : f σ h = .ok x h') : fPl f σ h = .ok x h' := by unfold fPl; rw [p]; rfl
theorem ev_forX {it : IF} {tg : GF} {b : SF} {σ : Sd} {h h1 : Hd} {l : List D} {g : Option Nat} {o : Out} (p : it σ h = .ok (l, g) h1) (q : forL g l tg b l σ h1 = o) : sForX it tg b σ h = o := by
  unfold sForX; rw [p]; exact q
theorem turns_ok {h : Hd} {x : Int} (n : Nat) (h0 : h[0]? = some (.lst [.int x])) : ∃ (t : Nat) (y : Int), F_l_turns [.ref 0, .int n] h = .ok (.int t) (h.set 0 (.lst [.int y])) ∧ t ≤ 400 := by
  have l0 := (List.getElem?_eq_some_iff.mp h0).1
  obtain ⟨v, hv⟩ : ∃ v, v = x % 4 := ⟨_, rfl⟩
  obtain ⟨h1, e1⟩ : ∃ h1, h1 = h.set 0 (.lst [.int (x / 4)]) := ⟨_, rfl⟩
  have d1 := digit_ok h0 (show (0 : Int) < 4 by decide) (by decide)
  rw [← hv, ← e1] at d1
  have d2 : ∀ m : Int, 0 < m → m < 2 ^ 250 → F_l_digit [.ref 0, .int m] h1 = .ok (.int (x / 4 % m)) (h.set 0 (.lst [.int (x / 4 / m)])) := fun m m0 m1 => by
    have := digit_ok (h := h1) (n := 0) (x := x / 4) (by rw [e1]; exact List.getElem?_set_self l0) m0 m1
    rw [this, e1, List.set_set]
  have s1 : sSet (gN 2) (fCall F_l_digit (aCons (fVar 0) (aCons (fC (.int 4)) aNil))) [some (.ref 0), some (.int n), none] h = .nx [some (.ref 0), some (.int n), some (.int v)] h1 := ev_set (ev_call (ev_2 rfl rfl) d1)
  have tt : ∀ a b : Int, tAnd (tE (fBin oEq (fVar 2) (fC (.int a)))) (tE (fBin oLt (fVar 1) (fC (.int b)))) [some (.ref 0), some (.int n), some (.int v)] h1 = .ok (decide (v = a) && decide ((n : Int) < b)) h1 := fun a b => by
    by_cases c : v = a
    · rw [decide_eq_true c]; exact ev_and (ev_b (ev_bin rfl rfl (ev_eqt c))) (ev_b (ev_bin rfl rfl rfl))
    · rw [decide_eq_false c]; exact ev_andf (ev_b (ev_bin rfl rfl (ev_eqf c)))
  cases c1 : (decide (v = 3) && decide ((n : Int) < 5)) with
  | true =>
    obtain ⟨q, hq, q3⟩ : ∃ q : Nat, x / 4 % 3 = q ∧ q < 3 := nat_mod (x / 4) (m := 3) (by decide)
    refine ⟨400 - q, x / 4 / 3, (fn_rt rfl rfl ((sq_nx s1).trans (sq_rt ((ev_t ((tt 3 5).trans (by rw [c1]))).trans (ev_ret (ev_bin rfl (ev_call (ev_2 rfl rfl) (d2 3 (by decide) (by decide))) rfl)))))).trans ?_, Nat.sub_le _ _⟩
    rw [letGo_set, hq, Int.ofNat_sub (Nat.le_trans (Nat.le_of_lt q3) (by decide))]; rfl
  | false =>
    have s2 := (ev_f (a := sRet (fBin oSub (fC (.int 400)) (fCall F_l_digit (aCons (fVar 0) (aCons (fC (.int 3)) aNil))))) (b := sNil) ((tt 3 5).trans (by rw [c1])))
    cases c2 : (decide (v = 2) && decide ((n : Int) < 13)) with
    | true =>
      obtain ⟨q, hq, q3⟩ : ∃ q : Nat, x / 4 % 61 = q ∧ q < 61 := nat_mod (x / 4) (m := 61) (by decide)
      refine ⟨q, x / 4 / 61, (fn_rt rfl rfl ((sq_nx s1).trans ((sq_nx s2).trans (sq_rt ((ev_t ((tt 2 13).trans (by rw [c2]))).trans (ev_ret (ev_call (ev_2 rfl rfl) (d2 61 (by decide) (by decide))))))))).trans ?_, Nat.le_trans (Nat.le_of_lt q3) (by decide)⟩
      rw [letGo_set, hq]
    | false =>
      obtain ⟨q, hq, q3⟩ : ∃ q : Nat, x / 4 % 7 = q ∧ q < 7 := nat_mod (x / 4) (m := 7) (by decide)
      refine ⟨q, x / 4 / 7, (fn_rt rfl rfl ((sq_nx s1).trans ((sq_nx s2).trans ((sq_nx (ev_f ((tt 2 13).trans (by rw [c2])))).trans (ev_ret (ev_call (ev_2 rfl rfl) (d2 7 (by decide) (by decide)))))))).trans ?_, Nat.le_trans (Nat.le_of_lt q3) (by decide)⟩
      rw [letGo_set, hq]
theorem are_ok {ss : List (List Int)} {a b : Nat} {h : Hd} (ha : h[a]? = some (.lst (ss.map encI))) (hb : h[b]? = some (.lst (ss.map encI))) : F_l_are_stands [.ref a, .ref b] h = .ok (.bl true) h := by
  have inner : ∀ (s : List Int) (x : Option D), ∃ y, sFor (iSeq (fVar 2)) (gN 3) B1_l_are_stands [some (.ref a), some (.ref b), some (encI s), x] h = .nx [some (.ref a), some (.ref b), some (encI s), y] h := by
    intro s x
    obtain ⟨σ', h', h1, h2, y, h3⟩ := forL_next (P := fun _ σ h' => h' = h ∧ ∃ y, σ = [some (.ref a), some (.ref b), some (encI s), y]) (g := none) (k := 0)
      (all := s.map D.int) (fun _ _ _ _ => trivial) (xs := s.map D.int) (tg := gN 3) (σ := [some (.ref a), some (.ref b), some (encI s), x]) (h := h)
      (b := B1_l_are_stands) (by
        rintro i x σ h0 hx ⟨rfl, y, rfl⟩
        obtain ⟨v, hv, rfl⟩ := List.mem_map.mp (List.mem_of_getElem? hx)
        exact ⟨_, rfl, _, h0, ev_f (ev_or (ev_not (b := true) (ev_b rfl)) (ev_b rfl)), rfl, _, rfl⟩) ⟨rfl, _, rfl⟩
    rw [h2, h3] at h1
    exact ⟨y, ev_for (ev_iseqT rfl) h1⟩
  obtain ⟨σ', h', h1, h2, x, y, h3⟩ := forL_next (P := fun _ σ h' => h' = h ∧ ∃ x y, σ = [some (.ref a), some (.ref b), x, y]) (g := some a) (k := 0)
      (all := ss.map encI) (fun _ _ _ q => by rw [q.1]; exact ha)
      (xs := ss.map encI) (tg := gN 2) (σ := [some (.ref a), some (.ref b), none, none]) (h := h)
      (b := B0_l_are_stands) (by
      rintro i x σ h0 hx ⟨rfl, y, z, rfl⟩
      obtain ⟨c, hc, rfl⟩ := List.mem_map.mp (List.mem_of_getElem? hx)
      obtain ⟨y', e⟩ := inner c z
      exact ⟨_, rfl, _, h0, (sq_nx (ev_f (ev_not (b := true) (ev_b rfl)))).trans e, rfl, _, _, rfl⟩) ⟨rfl, _, _, rfl⟩
  rw [h2, h3] at h1
  have ne : oNe (.ref a) (.ref b) h = .ok (.bl false) h := by
    simp only [oNe, eqG, lstOf, ha, hb, eqL_encs]; rfl
  exact (fn_rt rfl rfl ((sq_nx (ev_f (ev_or (ev_not (b := true) (ev_b (ev_isL rfl ha))) (ev_b (ev_bin rfl rfl ne))))).trans ((sq_nx (ev_for (ev_iseq rfl ha) h1)).trans (ev_ret rfl)))).trans letGo_self
section
variable {w : Web} {n : Nat} {s : List Int}
theorem historyY_no {d k : D} {h : Hd} (e : F_fits [w.enc, d] h = .ok (.bl false) h) : FY_history [w.enc, d, k] h = .exc NSx h :=
  exc_go rfl rfl (seq_exc (exp_exc (call_exc (ev_pl (ev_2 rfl rfl)) (checkY_no e))))
theorem endedY_no {d : D} {h : Hd} (e : F_fits [w.enc, d] h = .ok (.bl false) h) : FY_ended [w.enc, d] h = .exc NSx h :=
  exc_go rfl rfl (seq_exc (exp_exc (call_exc (ev_pl (ev_2 rfl rfl)) (checkY_no e))))
theorem historyY_long (W : w.Ok n) (F : Fits w n s) {k : Int} (hk : 400 < k) (h : Hd) : FY_history [w.enc, encI s, .int k] h = .exc (.exn "TooLong" []) h :=
  exc_go rfl rfl ((sq_nx (ev_exp (ev_call (ev_pl (ev_2 rfl rfl)) (checkY_ok (fits_ok W F h))))).trans (seq_exc (ifx_exc (ev_b (ev_bin rfl rfl (ev_gtt hk))))))
theorem sumsY_1 {d : D} {r : List D} {h : Hd} {k : Nat} (hk : h[k]? = some (.lst (d :: r))) (e : F_fits [w.enc, d] h = .ok (.bl false) h) : FY_sums [w.enc, .ref k] h = .exc NSx h :=
  exc_go rfl rfl (seq_exc (ev_forX (ev_iseq rfl hk) (forL_exc hk rfl (exp_exc (call_exc (ev_pl (ev_2 rfl rfl)) (checkY_no e))))))
theorem sumsY_2 {c d : D} {r : List D} {h : Hd} {k : Nat} (hk : h[k]? = some (.lst (c :: d :: r))) (q : F_fits [w.enc, c] h = .ok (.bl true) h) (e : F_fits [w.enc, d] h = .ok (.bl false) h) : FY_sums [w.enc, .ref k] h = .exc NSx h :=
  exc_go rfl rfl (seq_exc (ev_forX (ev_iseq rfl hk) ((forL_nx (show held (some k) (c :: d :: r) h from hk) rfl (ev_exp (ev_call (ev_pl (ev_2 rfl rfl)) (checkY_ok q)))).trans (forL_exc hk rfl (exp_exc (call_exc (ev_pl (ev_2 rfl rfl)) (checkY_no e)))))))
theorem long_ok (W : w.Ok n) (F : Fits w n s) {k : Int} (hk : 400 < k) (h : Hd) : F_l_too_long [w.enc, encI s, .int k] h = .ok (.bl true) h :=
  (fn_rt rfl rfl (ref_rt (exp_exc (call_exc (ev_pl (ev_cons rfl (ev_2 rfl rfl))) (historyY_long W F hk h))))).trans letGo_self
theorem refused_ok (W : w.Ok n) (F : Fits w n s) {d : D} {h : Hd} (nf : Nf w h d) {i : Nat} (hi : i < 4) : F_l_refused [w.enc, encI s, d, .int i] h = .ok (.bl true) h := by
  have tq : ∀ (j : Int) (σ : Sd), fVar 3 σ h = .ok (.int i) h → tE (fBin oEq (fVar 3) (fC (.int j))) σ h = .ok (decide ((i : Int) = j)) h := fun j σ v => ev_b (ev_bin v rfl rfl)
  rcases i with _ | _ | _ | _ | i
  ·
    have p := Int.emod_two_eq ((s.map D.int).length : Int)
    have ix : ∃ k : D, fIx (aCons (fC (.int 2)) (aCons (fC (.int 401)) aNil)) (fBin oMod (fLen (lOf (fVar 1))) (fC (.int 2))) [some w.enc, some (encI s), some d, some (.int 0), some .non, none, none] h = .ok k h := by
      have m : fBin oMod (fLen (lOf (fVar 1))) (fC (.int 2)) [some w.enc, some (encI s), some d, some (.int 0), some .non, none, none] h = .ok (.int (((s.map D.int).length : Int) % 2)) h := ev_bin (ev_len (ev_lof rfl rfl)) rfl (ev_mod (by decide))
      rcases p with p | p
      · rw [p] at m; exact ⟨_, ev_ix (ev_2 rfl rfl) m rfl⟩
      · rw [p] at m; exact ⟨_, ev_ix (ev_2 rfl rfl) m rfl⟩
    obtain ⟨k, ix⟩ := ix
    exact (fn_rt rfl rfl (ref_rt ((ifx_t (tq 0 _ rfl)).trans (exp_exc (call_exc (ev_pl (ev_cons rfl (ev_2 rfl ix))) (historyY_no nf.fits)))))).trans letGo_self
  · exact (fn_rt rfl rfl (ref_rt ((ifx_no (tq 0 _ rfl)).trans ((ifx_t (tq 1 _ rfl)).trans (exp_exc (call_exc (ev_pl (ev_2 rfl rfl)) (endedY_no nf.fits))))))).trans letGo_self
  · exact (fn_rt rfl rfl (ref_rt ((ifx_no (tq 0 _ rfl)).trans ((ifx_no (tq 1 _ rfl)).trans ((ifx_t (tq 2 _ rfl)).trans (exp_exc (call_exc (ev_pl (ev_2 rfl (ev_new (ev_2 rfl rfl)))) (sumsY_2 List.getElem?_concat_length (fits_ok W F _) (nf.more _).fits)))))))).trans (letGo_pure rfl)
  · exact (fn_rt rfl rfl (ref_rt ((ifx_no (tq 0 _ rfl)).trans ((ifx_no (tq 1 _ rfl)).trans ((ifx_no (tq 2 _ rfl)).trans (exp_exc (call_exc (ev_pl (ev_2 rfl (ev_new (ev_cons rfl (ev_2 rfl rfl))))) (sumsY_1 List.getElem?_concat_length (nf.more _).fits)))))))).trans (letGo_pure rfl)
  · exact absurd hi (Nat.not_lt.mpr (Nat.le_add_left 4 i))
end
end Fm
set_option linter.all false
namespace Fm
noncomputable abbrev X10 (S0 : D) (w : Web) (n : Nat) (s : List Int) (t N : Nat) (a b c : Option D) : Sd := [some S0, some w.enc, some (.ref (n + 1)), some (.ref 0), some (encI s), some (.int t), some (.ref N), a, b, c]
theorem due_ok {w : Web} {n : Nat} {s : List Int} (W : w.Ok n) (S : StayOk w) (F : Fits w n s) (hn : n ≤ 30) {S0 : D} {t N : Nat} (ht : t ≤ 400) {B : Hd} (hN : N = B.length) :
    ∃ a, L4_law (X10 S0 w n s t N none none none) (B ++ [.lst [encI s]]) = .nx (X10 S0 w n s t N a none none) (B ++ [.lst ((histL w n s (t + 1)).map encI)]) := by
  obtain ⟨σ', h', h1, h2, a, h3⟩ := forL_next (P := fun k σ h' => h' = B ++ [.lst ((histL w n s (k + 1)).map encI)] ∧ ∃ a, σ = X10 S0 w n s t N a none none) (g := none) (k := 0)
      (all := (List.range t).map fun k : Nat => D.int k) (fun _ _ _ _ => trivial)
      (xs := (List.range t).map fun k : Nat => D.int k) (tg := gN 7) (σ := X10 S0 w n s t N none none none) (h := B ++ [.lst [encI s]])
      (b := B0_law) (by
      rintro i x σ h0 hx ⟨rfl, a, rfl⟩
      obtain ⟨hi, rfl⟩ := range_at hx
      rw [Nat.zero_add]
      have g2 := get_end hN (.lst ((histL w n s (i + 1)).map encI))
      have bk : atI ((histL w n s (i + 1)).map encI) (-1) = some (encI (hist w n s i)) := histL_bk i 1 (Nat.le_refl 1)
      refine ⟨_, rfl, X10 S0 w n s t N (some (.int i)) none none, _, (ev_exp (ev_app rfl g2 (ev_call (ev_2 rfl (ev_at rfl rfl (ev_seq g2) bk)) (turn_ok W S (hist_fits W S F i) hn _)) g2 (by rw [List.length_map, histL_len]; exact Nat.lt_of_le_of_lt (Nat.le_trans hi ht) (by decide)))).trans (congrArg (Out.nx _) (set_end hN _ _)), ?_, _, rfl⟩
      rw [histL_succ (i + 1), List.map_append]; rfl) ⟨rfl, _, rfl⟩
  have e0 : 0 + ((List.range t).map fun k : Nat => D.int k).length = t := by rw [List.length_map, List.length_range, Nat.zero_add]
  rw [e0] at h2
  rw [h2, h3] at h1
  exact ⟨a, ev_for (ev_range rfl (Nat.le_trans ht (by decide))) h1⟩
theorem way_ok {i : Nat} (hi : i < 4) : (0 : Int) ≤ 40 + (i : Int) ∧ 40 + (i : Int) ≤ 1000 := ⟨by omega, by omega⟩
theorem law_ok (ns : List Int) (_ : ns.length ≤ 63) : ∃ h, F_law [.lit (ns.map .int)] [] = .ok (.bl true) h := by
  obtain ⟨n, w, h1, O⟩ := web_ok ns
  have W := O.ok
  have S : StayOk w := O.st
  have n1 := O.n1
  have hn := O.n30
  obtain ⟨S0, hS0⟩ : ∃ S0 : D, S0 = .lit (ns.map .int) := ⟨_, rfl⟩
  obtain ⟨s, h2, rs, F, H2, l2, old2⟩ := stand_ok W O.st O.n30 (h := h1) ⟨O.hst, O.sts⟩
  obtain ⟨x0, hx0⟩ := O.hd0
  have hx2 : h2[0]? = some (.lst [.int x0]) := by rw [old2 0 (.inl rfl)]; exact hx0
  obtain ⟨t, y, rt, ht⟩ := turns_ok n hx2
  have ls : (s.map D.int).length = n := by rw [List.length_map, F.len]
  obtain ⟨B, hB⟩ : ∃ B, B = h2.set 0 (.lst [.int y]) := ⟨_, rfl⟩
  have B0 : B[0]? = some (.lst [.int y]) := by rw [hB]; exact List.getElem?_set_self (List.getElem?_eq_some_iff.mp hx2).1
  rw [← hB] at rt
  obtain ⟨N, hN⟩ : ∃ N, N = B.length := ⟨_, rfl⟩
  have N0 : 0 ≠ N := by rw [hN]; exact Nat.ne_of_lt (List.getElem?_eq_some_iff.mp B0).1
  have web := O.run
  rw [← hS0] at web ⊢
  have s0 : L0_law [some S0, none, none, none, none, none, none, none, none, none] [] = .nx [some S0, some w.enc, some (.ref (n + 1)), some (.ref 0), none, none, none, none, none, none] h1 := by
    simp [L0_law, web]
  have s1 : L1_law [some S0, some w.enc, some (.ref (n + 1)), some (.ref 0), none, none, none, none, none, none] h1 = .nx [some S0, some w.enc, some (.ref (n + 1)), some (.ref 0), some (encI s), none, none, none, none, none] h2 := ev_set (ev_call (ev_2 rfl rfl) rs)
  have s2 : L2_law [some S0, some w.enc, some (.ref (n + 1)), some (.ref 0), some (encI s), none, none, none, none, none] h2 = .nx [some S0, some w.enc, some (.ref (n + 1)), some (.ref 0), some (encI s), some (.int t), none, none, none, none] B :=
    ev_set (ev_call (ev_2 rfl (ev_len (ev_lof rfl rfl))) (by rw [ls]; exact rt))
  have s3 : L3_law [some S0, some w.enc, some (.ref (n + 1)), some (.ref 0), some (encI s), some (.int t), none, none, none, none] B = .nx (X10 S0 w n s t N none none none) (B ++ [.lst [encI s]]) :=
    ev_set (new_end hN (ev_cons rfl rfl) (by exact of_decide_eq_true rfl))
  obtain ⟨a, s4⟩ := due_ok W S F hn (S0 := S0) ht hN
  obtain ⟨Q, hQ⟩ : ∃ Q, Q = histL w n s (t + 1) := ⟨_, rfl⟩
  rw [← hQ] at s4
  have hy : ∀ h, F_history [w.enc, encI s, .int t] h = .ok (.ref h.length) (h ++ [.lst (Q.map encI)]) := fun h => by rw [hQ]; exact history_ok W S F ht h
  have s5 : L5_law (X10 S0 w n s t N a none none) (B ++ [.lst (Q.map encI)]) = .nx (X10 S0 w n s t N a (some (.ref (N + 1))) none) (B ++ [.lst (Q.map encI), .lst (Q.map encI)]) := by
    have := ev_set (i := 8) (σ := X10 S0 w n s t N a none none) (ev_call (r := aCons (fVar 1) (aCons (fVar 4) (aCons (fVar 5) aNil))) (ev_cons rfl (ev_2 rfl rfl)) (hy (B ++ [.lst (Q.map encI)])))
    rw [List.length_append, ← hN, List.append_assoc] at this
    exact this
  have s6 : L6_law (X10 S0 w n s t N a (some (.ref (N + 1))) none) (B ++ [.lst (Q.map encI), .lst (Q.map encI)]) = .nx (X10 S0 w n s t N a (some (.ref (N + 1))) none) (B ++ [.lst (Q.map encI), .lst (Q.map encI)]) :=
    ev_f (ev_not (b := true) (ev_b (ev_call (ev_2 rfl rfl) (are_ok (at_pre' hN 1) (at_pre' hN 0)))))
  have s7 : L7_law (X10 S0 w n s t N a (some (.ref (N + 1))) none) (B ++ [.lst (Q.map encI), .lst (Q.map encI)]) = .nx (X10 S0 w n s t N a (some (.ref (N + 1))) none) (B ++ [.lst (Q.map encI), .lst []]) := by
    have g : (B ++ [.lst (Q.map encI), .lst (Q.map encI)])[N + 1]? = some (.lst (Q.map encI)) := at_pre' hN 1
    have c : fClear (fVar 8) (X10 S0 w n s t N a (some (.ref (N + 1))) none) (B ++ [.lst (Q.map encI), .lst (Q.map encI)]) = .ok .non ((B ++ [Cell.lst (Q.map encI), Cell.lst (Q.map encI)]).set (N + 1) (.lst [])) := by
      show uClear (.ref (N + 1)) _ = _
      simp only [uClear, g]
    rw [set_pre hN 1] at c
    exact ev_exp c
  obtain ⟨H, hH⟩ : ∃ H : Hd, H = B ++ [.lst (Q.map encI), .lst []] := ⟨_, rfl⟩
  rw [← hH] at s7
  have HN : ∀ g, (H ++ g)[N]? = some (.lst (Q.map encI)) := fun g => app_at g (by rw [hH]; exact at_pre' hN 0)
  have H0 : ∀ g, (H ++ g)[0]? = some (.lst [.int y]) := fun g => app_at g (by rw [hH]; exact app_at _ B0)
  have s8 : ∃ c g, L8_law (X10 S0 w n s t N a (some (.ref (N + 1))) none) H = .nx (X10 S0 w n s t N a (some (.ref (N + 1))) c) (H ++ g) := by
    obtain ⟨σ', h', k1, c, g, h3, h2⟩ := forL_next (P := fun _ σ h' => ∃ c g, σ = X10 S0 w n s t N a (some (.ref (N + 1))) c ∧ h' = H ++ g) (g := none) (k := 0)
      (all := (List.range 4).map fun k : Nat => D.int k) (fun _ _ _ _ => trivial)
      (xs := (List.range 4).map fun k : Nat => D.int k) (tg := gN 9) (σ := X10 S0 w n s t N a (some (.ref (N + 1))) none) (h := H) (b := B1_law) (by
        rintro i x σ h0 hx ⟨c, g, rfl, rfl⟩
        obtain ⟨hi, rfl⟩ := range_at hx
        obtain ⟨v, wv⟩ := wide_ok ns (40 + i) (way_ok hi) (H ++ g)
        rw [← hS0] at wv
        obtain ⟨d, g', nd, nf⟩ := none_ok W S F n1 hn v (H ++ g)
        refine ⟨_, rfl, _, _, ev_f (ev_not (b := true) (ev_b (ev_call (ev_cons rfl (ev_cons rfl (ev_2 (ev_call (ev_cons rfl (ev_2 rfl (ev_call (ev_2 rfl (ev_bin rfl rfl rfl)) wv))) nd) rfl))) (refused_ok W F nf hi)))), _, g ++ g', rfl, List.append_assoc _ _ _⟩) ⟨none, [], rfl, (List.append_nil _).symm⟩
    rw [h3, h2] at k1
    exact ⟨c, g, ev_for (ev_range rfl (by decide)) k1⟩
  obtain ⟨c, g, s8⟩ := s8
  have s9 : ∃ z, L9_law (X10 S0 w n s t N a (some (.ref (N + 1))) c) (H ++ g) = .nx (X10 S0 w n s t N a (some (.ref (N + 1))) c) ((H ++ g).set 0 (.lst [.int z])) := by
    have s10 : sml 10 = true := by decide
    have pw : ∀ (σ : Sd) (g : Hd), fBin oPow (fC (.int 10)) (fC (.int 50)) σ g = .ok (.int (10 ^ 50)) g := fun σ g => by
      exact ev_bin rfl rfl (if_pos (e := .bad) (show (decide ((0 : Int) ≤ 50) && decide ((50 : Int) ≤ 1000000) && sml 10) = true by rw [s10]; rfl))
    have p0 : (0 : Int) < 10 ^ 50 := by decide
    have d1 := digit_ok (H0 g) p0 (by decide)
    have d2 := digit_ok (h := (H ++ g).set 0 (.lst [.int (y / 10 ^ 50)])) (n := 0) (List.getElem?_set_self (List.getElem?_eq_some_iff.mp (H0 g)).1) (show (0 : Int) < 2 by decide) (by decide)
    rw [List.set_set] at d2
    obtain ⟨u, hu, u0⟩ : ∃ u, u = y % 10 ^ 50 ∧ 0 ≤ u := ⟨_, rfl, Int.emod_nonneg _ (Int.ne_of_gt p0)⟩
    obtain ⟨q, hq⟩ : ∃ q, q = y / 10 ^ 50 := ⟨_, rfl⟩
    rw [← hu, ← hq] at d1
    rw [← hq] at d2
    refine ⟨q / 2, ?_⟩
    have kk : ∃ k : Int, 400 < k ∧ atI [.int 401, .int (402 + u)] (q % 2) = some (.int k) := by
      rcases Int.emod_two_eq q with e | e
      · rw [e]; exact ⟨401, by decide, rfl⟩
      · rw [e]; exact ⟨402 + u, Int.lt_of_lt_of_le (show (400 : Int) < 402 by decide) (Int.le_add_of_nonneg_right u0), rfl⟩
    obtain ⟨k, k4, ak⟩ := kk
    exact ev_f (ev_not (b := true) (ev_b (ev_call (ev_cons rfl (ev_2 rfl (ev_ix (ev_2 rfl (ev_bin rfl (ev_call (ev_2 rfl (pw _ _)) d1) rfl)) (ev_call (ev_2 rfl rfl) d2) ak))) (long_ok W F k4 _))))
  obtain ⟨z, s9⟩ := s9
  obtain ⟨K, hK⟩ : ∃ K, K = (H ++ g).set 0 (.lst [.int z]) := ⟨_, rfl⟩
  rw [← hK] at s9
  have KN : K[N]? = some (.lst (Q.map encI)) := by rw [hK, List.getElem?_set_ne N0]; exact HN g
  have s10 : ∃ g, L10_law (X10 S0 w n s t N a (some (.ref (N + 1))) c) K = .rt (.bl true) g := by
    have h0 := history_ok W S F (Nat.zero_le 400) (K ++ [.lst (Q.map encI)])
    have eq : ∀ (h : Hd) (i j : Nat), h[i]? = some (.lst [encI s]) → h[j]? = some (.lst [encI s]) → oEq (.ref i) (.ref j) h = .ok (.bl true) h := fun h i j hi hj => by
      simp only [oEq, eqG, lstOf, hi, hj]
      rw [show eqL [encI s] [encI s] = some true from eqL_encs [s]]
    exact ⟨_, ev_ret (ev_fT (ev_and (ev_b (ev_call (ev_2 (ev_call (ev_cons rfl (ev_2 rfl rfl)) (hy K)) rfl) (are_ok List.getElem?_concat_length (app_at _ KN)))) (ev_b (ev_bin (ev_call (ev_cons rfl (ev_2 rfl rfl)) h0) (ev_new (ev_cons rfl rfl)) (eq _ _ _ (app_at _ List.getElem?_concat_length) List.getElem?_concat_length)))))⟩
  obtain ⟨Z, s10⟩ := s10
  obtain ⟨g', lg, _⟩ := letGo_app (h := []) (g := Z) (d := .bl true)
  rw [List.nil_append, List.nil_append] at lg
  refine ⟨g', ?_⟩
  unfold F_law
  refine (fn_rt (σ := [some S0, none, none, none, none, none, none, none, none, none]) rfl rfl ?_).trans lg
  rw [sq_nx s0, sq_nx s1, sq_nx s2, sq_nx s3, sq_nx s4, sq_nx s5, sq_nx s6, sq_nx s7, sq_nx s8, sq_nx s9]
  exact s10
end Fm
set_option Elab.async false
set_option linter.all false
set_option maxRecDepth 100000
set_option maxHeartbeats 4000000
namespace Fm
open PySem PySem.Spec L2
section
noncomputable abbrev topS (i : Nat) : Stmt := PySem.Challenge.pw_followmost_k10_histories_told.main.body.getD i (.Pass ⟨0, 0, 0, 0⟩)
noncomputable abbrev s_is_whole : Stmt := topS 12
noncomputable abbrev s_is_between : Stmt := topS 13
noncomputable abbrev s_is_opinion : Stmt := topS 14
noncomputable abbrev s_many_of : Stmt := topS 16
noncomputable abbrev s_ties_of : Stmt := topS 17
noncomputable abbrev s_bar_of : Stmt := topS 18
noncomputable abbrev s_stay_of : Stmt := topS 19
noncomputable abbrev s_fits : Stmt := topS 21
noncomputable abbrev s_check_stand : Stmt := topS 22
noncomputable abbrev s_pull_at : Stmt := topS 23
noncomputable abbrev s_next_at : Stmt := topS 24
noncomputable abbrev s_turn_at : Stmt := topS 25
noncomputable abbrev s_history : Stmt := topS 28
noncomputable abbrev s_ended : Stmt := topS 29
noncomputable abbrev s_sum_at : Stmt := topS 31
noncomputable abbrev s_sums : Stmt := topS 30
noncomputable abbrev s__law_wide : Stmt := topS 33
noncomputable abbrev s__law_cell : Stmt := topS 34
noncomputable abbrev s__law_digit : Stmt := topS 35
noncomputable abbrev s__law_weight : Stmt := topS 36
noncomputable abbrev s__law_bar : Stmt := topS 37
noncomputable abbrev s__law_web : Stmt := topS 38
noncomputable abbrev s__law_stand : Stmt := topS 39
noncomputable abbrev s__law_turn : Stmt := topS 40
noncomputable abbrev s__law_turns : Stmt := topS 41
noncomputable abbrev s__law_are_stands : Stmt := topS 42
noncomputable abbrev s__law_none : Stmt := topS 43
noncomputable abbrev s__law_too_long : Stmt := topS 44
noncomputable abbrev s__law_refused : Stmt := topS 45
noncomputable abbrev s_law : Stmt := topS 46
variable {P : Program} {w : World} {K : PySem.W.Frag} {mg : Str → Option Value} {base : Heap} {f : Addr} {fd : FuncData}
theorem sc_is_whole : FnScope ["thing"] ["thing"] (defScope s_is_whole) := ⟨rfl, rfl, rfl, by decide +kernel, rfl, by decide +kernel, by decide +kernel⟩
theorem ok_is_whole (F : Fun K "is_whole" "is_whole" s_is_whole f fd) (m_isinstance : mg "isinstance" = none) (m_bool : mg "bool" = none) (m_int : mg "int" = none) : FnOk P w K mg base CX0 1 f fd ["thing"] (spF K F_is_whole 1) := by
  refine fn_mk F sc_is_whole fun cdv A outer s H E hr => ?_
  have hu := hu24 hr
  exact (mss_one (ms_ret (MB.me (mb_and (mb_of (me_isTy (t := .int) rfl m_isinstance rfl m_int (by decide +kernel) (mv 0))) (mb_one (mb_not (mb_of (me_isTy (t := .bool) rfl m_isinstance rfl m_bool (by decide +kernel) (mv 0)))))))))
theorem sc_is_between : FnScope ["thing", "least", "most"] ["thing", "least", "most"] (defScope s_is_between) := ⟨rfl, rfl, rfl, by decide +kernel, rfl, by decide +kernel, by decide +kernel⟩
theorem ok_is_between (F : Fun K "is_between" "is_between" s_is_between f fd) (c_is_whole : Def P w K mg base "is_whole" 1 1 F_is_whole) : FnOk P w K mg base CX0 2 f fd ["thing", "least", "most"] (spF K F_is_between 3) := by
  refine fn_mk F sc_is_between fun cdv A outer s H E hr => ?_
  have hu := hu24 hr
  exact (mss_one (ms_ret (MB.me (mb_and (mb_of (me_call c_is_whole (hr.mono (by decide)) rfl (ma_cons (mv 0) ma_nil) mkFn_np)) (mb_one (mb_of (me_chain op_le op_le og_B og_B (mv 1) (mv 0) (mv 2))))))))
theorem sc_is_opinion : FnScope ["thing"] ["thing"] (defScope s_is_opinion) := ⟨rfl, rfl, rfl, by decide +kernel, rfl, by decide +kernel, by decide +kernel⟩
theorem ok_is_opinion (F : Fun K "is_opinion" "is_opinion" s_is_opinion f fd) (c_is_between : Def P w K mg base "is_between" 2 3 F_is_between) : FnOk P w K mg base CX0 3 f fd ["thing"] (spF K F_is_opinion 1) := by
  refine fn_mk F sc_is_opinion fun cdv A outer s H E hr => ?_
  have hu := hu24 hr
  exact (mss_one (ms_ret (me_call c_is_between (hr.mono (by decide)) rfl (ma_cons (mv 0) (ma_cons me_int (ma_cons me_int ma_nil))) mkFn_np)))
theorem sc_many_of : FnScope ["web"] ["web"] (defScope s_many_of) := ⟨rfl, rfl, rfl, by decide +kernel, rfl, by decide +kernel, by decide +kernel⟩
theorem ok_many_of (F : Fun K "many_of" "many_of" s_many_of f fd) (m_len : mg "len" = none) : FnOk P w K mg base CX0 1 f fd ["web"] (spF K F_many_of 1) := by
  refine fn_mk F sc_many_of fun cdv A outer s H E hr => ?_
  have hu := hu24 hr
  exact (mss_one (ms_ret (me_len rfl m_len (mq_of (me_at (mv 0) me_int (fun _ _ => rfl))))))
theorem sc_ties_of : FnScope ["web", "person"] ["web", "person"] (defScope s_ties_of) := ⟨rfl, rfl, rfl, by decide +kernel, rfl, by decide +kernel, by decide +kernel⟩
theorem ok_ties_of (F : Fun K "ties_of" "ties_of" s_ties_of f fd) : FnOk P w K mg base CX0 1 f fd ["web", "person"] (spF K F_ties_of 2) := by
  refine fn_mk F sc_ties_of fun cdv A outer s H E hr => ?_
  have hu := hu24 hr
  exact (mss_one (ms_ret (me_at (me_at (mv 0) me_int (fun _ _ => rfl)) (mv 1) (fun _ _ => rfl))))
theorem sc_bar_of : FnScope ["web", "person"] ["web", "person"] (defScope s_bar_of) := ⟨rfl, rfl, rfl, by decide +kernel, rfl, by decide +kernel, by decide +kernel⟩
theorem ok_bar_of (F : Fun K "bar_of" "bar_of" s_bar_of f fd) : FnOk P w K mg base CX0 1 f fd ["web", "person"] (spF K F_bar_of 2) := by
  refine fn_mk F sc_bar_of fun cdv A outer s H E hr => ?_
  have hu := hu24 hr
  exact (mss_one (ms_ret (me_at (me_at (mv 0) me_int (fun _ _ => rfl)) (mv 1) (fun _ _ => rfl))))
theorem sc_stay_of : FnScope ["web", "person"] ["web", "person"] (defScope s_stay_of) := ⟨rfl, rfl, rfl, by decide +kernel, rfl, by decide +kernel, by decide +kernel⟩
theorem ok_stay_of (F : Fun K "stay_of" "stay_of" s_stay_of f fd) : FnOk P w K mg base CX0 1 f fd ["web", "person"] (spF K F_stay_of 2) := by
  refine fn_mk F sc_stay_of fun cdv A outer s H E hr => ?_
  have hu := hu24 hr
  exact (mss_one (ms_ret (me_at (me_at (mv 0) me_int (fun _ _ => rfl)) (mv 1) (fun _ _ => rfl))))
theorem sc_fits : FnScope ["web", "thing", "person", "opinion", "stay"] ["web", "thing"] (defScope s_fits) := ⟨rfl, rfl, rfl, by decide +kernel, rfl, by decide +kernel, by decide +kernel⟩
theorem ok_fits (F : Fun K "fits" "fits" s_fits f fd) (m_enumerate : mg "enumerate" = none) (m_len : mg "len" = none) (m_isinstance : mg "isinstance" = none) (m_tuple : mg "tuple" = none) (c_stay_of : Def P w K mg base "stay_of" 1 2 F_stay_of) (c_is_opinion : Def P w K mg base "is_opinion" 3 1 F_is_opinion) (c_many_of : Def P w K mg base "many_of" 1 1 F_many_of) : FnOk P w K mg base CX0 4 f fd ["web", "thing"] (spF K F_fits 2) := by
  refine fn_mk F sc_fits fun cdv A outer s H E hr => ?_
  have hu := hu24 hr
  exact (mss_cons (ms_if (MW.mt (mw_or (mt_not (mt_val (me_isTy (t := .tuple) rfl m_isinstance rfl m_tuple (by decide +kernel) (mv 1)))) (mw_one (mt_cmp (op_neG hu) og_ne (me_len rfl m_len (mq_of (mv 1))) (me_call c_many_of (hr.mono (by decide)) rfl (ma_cons (mv 0) ma_nil) mkFn_np) (nomark _)) (.inr rfl)))) (mss_one (ms_ret me_bl)) mss_nil)
    (mss_cons (ms_for PassesOwn.never rfl (mi_enum rfl m_enumerate (mv 1)) (mg_tup rfl (mgs_cons (mg_name (i := 2) sc_fits.nd rfl (by first | exact .inl rfl | exact .inr rfl)) (mgs_cons (mg_name (i := 3) sc_fits.nd rfl (by first | exact .inl rfl | exact .inr rfl)) mgs_nil))) (mss_cons (ms_if (mt_not (mt_val (me_call c_is_opinion (hr.mono (by decide)) rfl (ma_cons (mv 3) ma_nil) mkFn_np))) (mss_one (ms_ret me_bl)) mss_nil)
    (mss_cons (ms_set (i := 4) sc_fits.nd rfl (by first | exact .inl rfl | exact .inr rfl) (me_call c_stay_of (hr.mono (by decide)) rfl (ma_cons (mv 0) (ma_cons (mv 2) ma_nil)) mkFn_np))
    (mss_one (ms_if (MW.mt (mw_and (mt_cmp op_notN og_isNotN (mv 4) me_non (nomark _)) (mw_one (mt_cmp (op_neG hu) og_ne (mv 3) (mv 4) (nomark _)) (.inl rfl)))) (mss_one (ms_ret me_bl)) mss_nil)))))
    (mss_one (ms_ret me_bl))))
theorem sc_check_stand : FnScope ["web", "thing"] ["web", "thing"] (defScope s_check_stand) := ⟨rfl, rfl, rfl, by decide +kernel, rfl, by decide +kernel, by decide +kernel⟩
theorem ok_check_stand (F : Fun K "check_stand" "check_stand" s_check_stand f fd) (c_fits : Def P w K mg base "fits" 4 2 F_fits) : FnOk P w K mg base CX0 5 f fd ["web", "thing"] (spF K F_check_stand 2) := by
  refine fn_mk F sc_check_stand fun cdv A outer s H E hr => ?_
  have hu := hu24 hr
  exact (mss_one (ms_if (mt_not (mt_val (me_call c_fits (hr.mono (by decide)) rfl (ma_cons (mv 0) (ma_cons (mv 1) ma_nil)) mkFn_np))) (mss_one ms_bad) mss_nil))
theorem sc_pull_at : FnScope ["web", "stand", "person"] ["web", "stand", "person"] (defScope s_pull_at) := ⟨rfl, rfl, rfl, by decide +kernel, rfl, by decide +kernel, by decide +kernel⟩
theorem ok_pull_at (F : Fun K "pull_at" "pull_at" s_pull_at f fd) (m_sum : mg "sum" = none) (c_ties_of : Def P w K mg base "ties_of" 1 2 F_ties_of) : FnOk P w K mg base CX0 2 f fd ["web", "stand", "person"] (spF K F_pull_at 3) := by
  refine fn_mk F sc_pull_at fun cdv A outer s H E hr => ?_
  have hu := hu24 hr
  exact (mss_one (ms_ret (me_op op_mul og_mul me_int (me_sum rfl rfl m_sum (mq_new (mf_comp (own := ["other", "weight"]) (capn := ["stand"]) (caps := [1]) rfl (CScope.mk' rfl (by decide +kernel) (by decide +kernel) (by repeat' (first | exact FreeIn.nil | refine FreeIn.cons (by first | exact (fun _ => .inl rfl) | exact (fun _ => .inr rfl) | (intro z; cases z; done)) ?_)) (CapIn.cons rfl rfl CapIn.nil)) (mi_seq (me_call c_ties_of (hr.mono (by decide)) rfl (ma_cons (mv 0) (ma_cons (mv 2) ma_nil)) mkFn_np))
      (fun cl C s H ex => ⟨(mg_tup rfl (mgs_cons (mg_name (i := 0) (show ((["other", "weight"] : List Str) ++ (["stand"] : List Str)).Nodup by decide +kernel) rfl (by first | exact .inl rfl | exact .inr rfl)) (mgs_cons (mg_name (i := 1) (show ((["other", "weight"] : List Str) ++ (["stand"] : List Str)).Nodup by decide +kernel) rfl (by first | exact .inl rfl | exact .inr rfl)) mgs_nil))), (mts_one (mt_cmp (op_eqG hu) og_eq (me_at (mv 2) (mv 0) (fun _ _ => rfl)) me_int (nomark _))), (mv 1)⟩)))))))
theorem sc_next_at : FnScope ["web", "stand", "person", "stay", "strength", "bar"] ["web", "stand", "person"] (defScope s_next_at) := ⟨rfl, rfl, rfl, by decide +kernel, rfl, by decide +kernel, by decide +kernel⟩
theorem ok_next_at (F : Fun K "next_at" "next_at" s_next_at f fd) (c_bar_of : Def P w K mg base "bar_of" 1 2 F_bar_of) (c_pull_at : Def P w K mg base "pull_at" 2 3 F_pull_at) (c_stay_of : Def P w K mg base "stay_of" 1 2 F_stay_of) : FnOk P w K mg base CX0 3 f fd ["web", "stand", "person"] (spF K F_next_at 3) := by
  refine fn_mk F sc_next_at fun cdv A outer s H E hr => ?_
  have hu := hu24 hr
  exact (mss_cons (ms_set (i := 3) sc_next_at.nd rfl (by first | exact .inl rfl | exact .inr rfl) (me_call c_stay_of (hr.mono (by decide)) rfl (ma_cons (mv 0) (ma_cons (mv 2) ma_nil)) mkFn_np))
    (mss_cons (ms_if (mt_cmp op_notN og_isNotN (mv 3) me_non (nomark _)) (mss_one (ms_ret (mv 3))) mss_nil)
    (mss_cons (ms_set (i := 4) sc_next_at.nd rfl (by first | exact .inl rfl | exact .inr rfl) (me_call c_pull_at (hr.mono (by decide)) rfl (ma_cons (mv 0) (ma_cons (mv 1) (ma_cons (mv 2) ma_nil))) mkFn_np))
    (mss_cons (ms_set (i := 5) sc_next_at.nd rfl (by first | exact .inl rfl | exact .inr rfl) (me_call c_bar_of (hr.mono (by decide)) rfl (ma_cons (mv 0) (ma_cons (mv 2) ma_nil)) mkFn_np))
    (mss_cons (ms_if (mt_cmp (op_eqG hu) og_eq (mv 4) (mv 5) (nomark _)) (mss_one (ms_ret (me_at (mv 1) (mv 2) (fun _ _ => rfl)))) mss_nil)
    (mss_one (ms_ret (me_if (mt_cmp op_gt og_B (mv 4) (mv 5) (nomark _)) me_int me_int))))))))
theorem sc_turn_at : FnScope ["web", "stand"] ["web", "stand"] (defScope s_turn_at) := ⟨rfl, rfl, rfl, by decide +kernel, rfl, by decide +kernel, by decide +kernel⟩
theorem ok_turn_at (F : Fun K "turn_at" "turn_at" s_turn_at f fd) (m_tuple : mg "tuple" = none) (m_range : mg "range" = none) (c_many_of : Def P w K mg base "many_of" 1 1 F_many_of) (c_next_at : Def P w K mg base "next_at" 3 3 F_next_at) : FnOk P w K mg base CX0 4 f fd ["web", "stand"] (spF K F_turn_at 2) := by
  refine fn_mk F sc_turn_at fun cdv A outer s H E hr => ?_
  have hu := hu24 hr
  exact (mss_one (ms_ret (me_tupL rfl m_tuple (mq_new (mf_comp (own := ["person"]) (capn := ["web", "stand"]) (caps := [0, 1]) rfl (CScope.mk' rfl (by decide +kernel) (by decide +kernel) (by repeat' (first | exact FreeIn.nil | refine FreeIn.cons (by first | exact (fun _ => .inl rfl) | exact (fun _ => .inr rfl) | (intro z; cases z; done)) ?_)) (CapIn.cons rfl rfl (CapIn.cons rfl rfl CapIn.nil))) (mi_range rfl m_range (me_call c_many_of (hr.mono (by decide)) rfl (ma_cons (mv 0) ma_nil) mkFn_np))
      (fun cl C s H ex => ⟨(mg_name (i := 0) (show ((["person"] : List Str) ++ (["web", "stand"] : List Str)).Nodup by decide +kernel) rfl (by first | exact .inl rfl | exact .inr rfl)), mts_nil, (me_call c_next_at (hr.mono (by decide)) rfl (ma_cons (mv 1) (ma_cons (mv 2) (ma_cons (mv 0) ma_nil))) mkFn_np)⟩))))))
theorem sc_history : FnScope ["web", "stand", "turns", "stands", "place"] ["web", "stand", "turns"] (defScope s_history) := ⟨rfl, rfl, rfl, by decide +kernel, rfl, by decide +kernel, by decide +kernel⟩
theorem ok_history (F : Fun K "history" "history" s_history f fd) (m_range : mg "range" = none) {t_MOST_TURNS : Tok} (g_MOST_TURNS : mg "MOST_TURNS" = some (.int 400 t_MOST_TURNS)) (c_turn_at : Def P w K mg base "turn_at" 4 2 F_turn_at) (c_check_stand : Def P w K mg base "check_stand" 5 2 F_check_stand) : FnOk P w K mg base CX0 6 f fd ["web", "stand", "turns"] (spF K F_history 3) := by
  refine fn_mk F sc_history fun cdv A outer s H E hr => ?_
  have hu := hu24 hr
  exact (mss_cons (ms_expr (me_call c_check_stand (hr.mono (by decide)) rfl (ma_cons (mv 0) (ma_cons (mv 1) ma_nil)) mkFn_np))
    (mss_cons (ms_if (mt_cmp op_gt og_B (mv 2) (me_globI rfl g_MOST_TURNS) (nomark _)) (mss_one ms_bad) mss_nil)
    (mss_cons (ms_set (i := 3) sc_history.nd rfl (by first | exact .inl rfl | exact .inr rfl) (me_new (mf_lst (ma_cons (mv 1) ma_nil) (fun _ _ _ _ z => by rw [(aCons_len aNil_len) _ _ _ _ z]; decide))))
    (mss_cons (ms_for PassesOwn.never rfl (mi_range rfl m_range (mv 2)) (mg_name (i := 4) sc_history.nd rfl (by first | exact .inl rfl | exact .inr rfl)) (mss_one (ms_expr (me_app (mv 3) (me_call c_turn_at (hr.mono (by decide)) rfl (ma_cons (mv 0) (ma_cons (me_at (mv 3) (mv 4) (fun _ _ => rfl)) ma_nil)) mkFn_np)))))
    (mss_one (ms_ret (mv 3)))))))
theorem sc_ended : FnScope ["web", "stand", "stands", "later", "word"] ["web", "stand"] (defScope s_ended) := ⟨rfl, rfl, rfl, by decide +kernel, rfl, by decide +kernel, by decide +kernel⟩
theorem ok_ended (F : Fun K "ended" "ended" s_ended f fd) (m_len : mg "len" = none) (c_turn_at : Def P w K mg base "turn_at" 4 2 F_turn_at) (c_check_stand : Def P w K mg base "check_stand" 5 2 F_check_stand) : FnOk P w K mg base CX0 6 f fd ["web", "stand"] (spF K F_ended 2) := by
  refine fn_mk F sc_ended fun cdv A outer s H E hr => ?_
  have hu := hu24 hr
  exact (mss_cons (ms_expr (me_call c_check_stand (hr.mono (by decide)) rfl (ma_cons (mv 0) (ma_cons (mv 1) ma_nil)) mkFn_np))
    (mss_cons (ms_set (i := 2) sc_ended.nd rfl (by first | exact .inl rfl | exact .inr rfl) (me_new (mf_lst (ma_cons (mv 1) (ma_cons (me_call c_turn_at (hr.mono (by decide)) rfl (ma_cons (mv 0) (ma_cons (mv 1) ma_nil)) mkFn_np) ma_nil)) (fun _ _ _ _ z => by rw [(aCons_len (aCons_len aNil_len)) _ _ _ _ z]; decide))))
    (mss_cons (ms_set (i := 3) sc_ended.nd rfl (by first | exact .inl rfl | exact .inr rfl) (me_call c_turn_at (hr.mono (by decide)) rfl (ma_cons (mv 0) (ma_cons (me_at (mv 2) me_int (fun _ _ => rfl)) ma_nil)) mkFn_np))
    (mss_cons (ms_while PassesOwn.never (mt_cmp (op_neG hu) og_ne (mv 3) (me_at (mv 2) me_negC (fun _ _ => rfl)) (nomark _)) (mss_cons (ms_expr (me_app (mv 2) (mv 3)))
    (mss_one (ms_set (i := 3) sc_ended.nd rfl (by first | exact .inl rfl | exact .inr rfl) (me_call c_turn_at (hr.mono (by decide)) rfl (ma_cons (mv 0) (ma_cons (mv 3) ma_nil)) mkFn_np)))))
    (mss_cons (ms_set (i := 4) sc_ended.nd rfl (by first | exact .inl rfl | exact .inr rfl) (me_if (mt_cmp (op_eqG hu) og_eq (me_at (mv 2) me_negC (fun _ _ => rfl)) (me_at (mv 2) me_negC (fun _ _ => rfl)) (nomark _)) (me_str [114, 101, 115, 116] rfl) (me_str [112, 97, 105, 114] rfl)))
    (mss_one (ms_ret (me_tup (ma_cons (me_op op_sub og_I (me_len rfl m_len (mq_of (mv 2))) me_int) (ma_cons (mv 4) (ma_cons (mv 2) ma_nil)))))))))))
theorem sc_sum_at : FnScope ["web", "first", "second", "total", "person"] ["web", "first", "second"] (defScope s_sum_at) := ⟨rfl, rfl, rfl, by decide +kernel, rfl, by decide +kernel, by decide +kernel⟩
theorem ok_sum_at (F : Fun K "sum_at" "sum_at" s_sum_at f fd) (m_range : mg "range" = none) (c_many_of : Def P w K mg base "many_of" 1 1 F_many_of) (c_pull_at : Def P w K mg base "pull_at" 2 3 F_pull_at) (c_bar_of : Def P w K mg base "bar_of" 1 2 F_bar_of) : FnOk P w K mg base CX0 3 f fd ["web", "first", "second"] (spF K F_sum_at 3) := by
  refine fn_mk F sc_sum_at fun cdv A outer s H E hr => ?_
  have hu := hu24 hr
  exact (mss_cons (ms_set (i := 3) sc_sum_at.nd rfl (by first | exact .inl rfl | exact .inr rfl) me_int)
    (mss_cons (ms_for PassesOwn.never rfl (mi_range rfl m_range (me_call c_many_of (hr.mono (by decide)) rfl (ma_cons (mv 0) ma_nil) mkFn_np)) (mg_name (i := 4) sc_sum_at.nd rfl (by first | exact .inl rfl | exact .inr rfl)) (mss_cons (ms_aug (i := 3) sc_sum_at.nd rfl (by first | exact .inl rfl | exact .inr rfl) (me_op op_mul og_mul (me_op op_add2 og_add (me_op op_mul og_mul me_int (me_call c_bar_of (hr.mono (by decide)) rfl (ma_cons (mv 0) (ma_cons (mv 4) ma_nil)) mkFn_np)) me_int) (me_op op_add2 og_add (me_at (mv 1) (mv 4) (fun _ _ => rfl)) (me_at (mv 2) (mv 4) (fun _ _ => rfl)))) iop_add og_I)
    (mss_one (ms_if (mt_cmp (op_eqG hu) og_eq (me_at (mv 2) (mv 4) (fun _ _ => rfl)) me_int (nomark _)) (mss_one (ms_aug (i := 3) sc_sum_at.nd rfl (by first | exact .inl rfl | exact .inr rfl) (me_op op_add2 og_add (me_op op_mul og_mul me_int (me_call c_pull_at (hr.mono (by decide)) rfl (ma_cons (mv 0) (ma_cons (mv 1) (ma_cons (mv 4) ma_nil))) mkFn_np)) (me_op op_mul og_mul me_int (me_at (mv 1) (mv 4) (fun _ _ => rfl)))) iop_sub og_I)) mss_nil))))
    (mss_one (ms_ret (mv 3)))))
theorem sc_sums : FnScope ["web", "stands", "stand"] ["web", "stands"] (defScope s_sums) := ⟨rfl, rfl, rfl, by decide +kernel, rfl, by decide +kernel, by decide +kernel⟩
theorem ok_sums (F : Fun K "sums" "sums" s_sums f fd) (m_range : mg "range" = none) (m_len : mg "len" = none) (c_sum_at : Def P w K mg base "sum_at" 3 3 F_sum_at) (c_check_stand : Def P w K mg base "check_stand" 5 2 F_check_stand) : FnOk P w K mg base CX0 6 f fd ["web", "stands"] (spF K F_sums 2) := by
  refine fn_mk F sc_sums fun cdv A outer s H E hr => ?_
  have hu := hu24 hr
  exact (mss_cons (ms_for PassesOwn.never rfl (mi_seq (mv 1)) (mg_name (i := 2) sc_sums.nd rfl (by first | exact .inl rfl | exact .inr rfl)) (mss_one (ms_expr (me_call c_check_stand (hr.mono (by decide)) rfl (ma_cons (mv 0) (ma_cons (mv 2) ma_nil)) mkFn_np))))
    (mss_one (ms_ret (me_new (mf_comp (own := ["place"]) (capn := ["web", "stands"]) (caps := [0, 1]) rfl (CScope.mk' rfl (by decide +kernel) (by decide +kernel) (by repeat' (first | exact FreeIn.nil | refine FreeIn.cons (by first | exact (fun _ => .inl rfl) | exact (fun _ => .inr rfl) | (intro z; cases z; done)) ?_)) (CapIn.cons rfl rfl (CapIn.cons rfl rfl CapIn.nil))) (mi_range rfl m_range (me_op op_sub og_I (me_len rfl m_len (mq_of (mv 1))) me_int))
      (fun cl C s H ex => ⟨(mg_name (i := 0) (show ((["place"] : List Str) ++ (["web", "stands"] : List Str)).Nodup by decide +kernel) rfl (by first | exact .inl rfl | exact .inr rfl)), mts_nil, (me_call c_sum_at (hr.mono (by decide)) rfl (ma_cons (mv 1) (ma_cons (me_at (mv 2) (mv 0) (fun _ _ => rfl)) (ma_cons (me_at (mv 2) (me_op op_add2 og_add (mv 0) me_int) (fun _ _ => rfl)) ma_nil))) mkFn_np)⟩))))))
theorem sc__law_wide : FnScope ["_law_script", "_law_k", "_law_seed", "_law_found", "_law_j", "_law_number"] ["_law_script", "_law_k"] (defScope s__law_wide) := ⟨rfl, rfl, rfl, by decide +kernel, rfl, by decide +kernel, by decide +kernel⟩
theorem ok__law_wide (F : Fun K "_law_wide" "_law_wide" s__law_wide f fd) (m_range : mg "range" = none) (m_len : mg "len" = none) : FnOk P w K mg base CX0 1 f fd ["_law_script", "_law_k"] (spF K F_l_wide 2) := by
  refine fn_mk F sc__law_wide fun cdv A outer s H E hr => ?_
  have hu := hu24 hr
  exact (mss_cons (ms_set (i := 2) sc__law_wide.nd rfl (by first | exact .inl rfl | exact .inr rfl) me_int)
    (mss_cons (ms_if (mt_cmp op_gt og_B (me_len rfl m_len (mq_of (mv 0))) me_int (nomark _)) (mss_one (ms_set (i := 2) sc__law_wide.nd rfl (by first | exact .inl rfl | exact .inr rfl) (me_op op_mod og_mod (me_at (mv 0) (me_op op_mod og_mod (mv 1) (me_len rfl m_len (mq_of (mv 0)))) (fun _ _ => rfl)) me_int))) mss_nil)
    (mss_cons (ms_set (i := 3) sc__law_wide.nd rfl (by first | exact .inl rfl | exact .inr rfl) me_int)
    (mss_cons (ms_for PassesOwn.never rfl (mi_range rfl m_range me_int) (mg_name (i := 4) sc__law_wide.nd rfl (by first | exact .inl rfl | exact .inr rfl)) (mss_cons (ms_set (i := 5) sc__law_wide.nd rfl (by first | exact .inl rfl | exact .inr rfl) (me_op op_mod og_mod (me_op op_mul og_mul (me_op op_add2 og_add (me_op op_add2 og_add (me_op op_add2 og_add (mv 2) (me_op op_mul og_mul me_int (mv 1))) (me_op op_mul og_mul (mv 4) (mv 4))) me_int) me_int) me_int))
    (mss_cons (ms_set (i := 5) sc__law_wide.nd rfl (by first | exact .inl rfl | exact .inr rfl) (me_op op_mod og_mod (me_op op_mul og_mul (me_op op_add2 og_add (mv 5) me_int) (me_op op_add2 og_add (me_op op_add2 og_add (mv 5) (mv 4)) me_int)) me_int))
    (mss_cons (ms_set (i := 5) sc__law_wide.nd rfl (by first | exact .inl rfl | exact .inr rfl) (me_op op_mod og_mod (me_op op_mul og_mul (me_op op_add2 og_add (mv 5) (mv 1)) me_int) me_int))
    (mss_one (ms_set (i := 3) sc__law_wide.nd rfl (by first | exact .inl rfl | exact .inr rfl) (me_op op_add2 og_add (me_op op_mul og_mul (mv 3) me_int) (me_op op_mod og_mod (me_op op_mul og_mul (mv 5) (me_op op_add2 og_add (mv 5) me_int)) me_int))))))))
    (mss_one (ms_ret (mv 3)))))))
theorem sc__law_cell : FnScope ["_law_script", "_law_k"] ["_law_script", "_law_k"] (defScope s__law_cell) := ⟨rfl, rfl, rfl, by decide +kernel, rfl, by decide +kernel, by decide +kernel⟩
theorem ok__law_cell (F : Fun K "_law_cell" "_law_cell" s__law_cell f fd) (m_len : mg "len" = none) (c__law_wide : Def P w K mg base "_law_wide" 1 2 F_l_wide) : FnOk P w K mg base CX0 2 f fd ["_law_script", "_law_k"] (spF K F_l_cell 2) := by
  refine fn_mk F sc__law_cell fun cdv A outer s H E hr => ?_
  have hu := hu24 hr
  exact (mss_cons (ms_if (MW.mt (mw_and (mt_cmp op_lt og_B (mv 1) (me_len rfl m_len (mq_of (mv 0))) (nomark _)) (mw_one (mt_cmp (op_eqG hu) og_eq (me_op op_mod og_mod (me_at (mv 0) me_int (fun _ _ => rfl)) me_int) me_int (nomark _)) (.inl rfl)))) (mss_one (ms_ret (me_at (mv 0) (mv 1) (fun _ _ => rfl)))) mss_nil)
    (mss_one (ms_ret (me_call c__law_wide (hr.mono (by decide)) rfl (ma_cons (mv 0) (ma_cons (mv 1) ma_nil)) mkFn_np))))
theorem sc__law_digit : FnScope ["_law_state", "_law_most", "_law_found"] ["_law_state", "_law_most"] (defScope s__law_digit) := ⟨rfl, rfl, rfl, by decide +kernel, rfl, by decide +kernel, by decide +kernel⟩
theorem ok__law_digit (F : Fun K "_law_digit" "_law_digit" s__law_digit f fd) : FnOk P w K mg base CX0 1 f fd ["_law_state", "_law_most"] (spF K F_l_digit 2) := by
  refine fn_mk F sc__law_digit fun cdv A outer s H E hr => ?_
  have hu := hu24 hr
  exact (mss_cons (ms_set (i := 2) sc__law_digit.nd rfl (by first | exact .inl rfl | exact .inr rfl) (me_op op_mod og_mod (me_at (mv 0) me_int (fun _ _ => rfl)) (mv 1)))
    (mss_cons (ms_put (me_op op_fdivB og_div (me_at (mv 0) me_int (fun _ _ => rfl)) (mv 1)) (mv 0) me_int)
    (mss_one (ms_ret (mv 2)))))
theorem sc__law_weight : FnScope ["_law_state", "_law_sort", "_law_number"] ["_law_state", "_law_sort"] (defScope s__law_weight) := ⟨rfl, rfl, rfl, by decide +kernel, rfl, by decide +kernel, by decide +kernel⟩
theorem ok__law_weight (F : Fun K "_law_weight" "_law_weight" s__law_weight f fd) (m_int : mg "int" = none) (c__law_digit : Def P w K mg base "_law_digit" 1 2 F_l_digit) : FnOk P w K mg base CX0 2 f fd ["_law_state", "_law_sort"] (spF K F_l_weight 2) := by
  refine fn_mk F sc__law_weight fun cdv A outer s H E hr => ?_
  have hu := hu24 hr
  exact (mss_cons (ms_if (mt_cmp (op_eqG hu) og_eq (mv 1) me_int (nomark _)) (mss_cons (ms_set (i := 2) sc__law_weight.nd rfl (by first | exact .inl rfl | exact .inr rfl) (me_call c__law_digit (hr.mono (by decide)) rfl (ma_cons (mv 0) (ma_cons me_int ma_nil)) mkFn_np))
    (mss_one (ms_ret (me_op op_mul og_mul (mv 2) (me_intc rfl m_int (me_cmp op_lt og_B (mv 2) me_int (nomark _))))))) mss_nil)
    (mss_cons (ms_if (mt_cmp (op_eqG hu) og_eq (mv 1) me_int (nomark _)) (mss_one (ms_ret (me_ix (mf_lst (ma_cons me_int (ma_cons me_int (ma_cons me_int (ma_cons me_int (ma_cons me_int (ma_cons me_int (ma_cons me_int (ma_cons me_int (ma_cons me_int ma_nil))))))))) (fun _ _ _ _ z => by rw [(aCons_len (aCons_len (aCons_len (aCons_len (aCons_len (aCons_len (aCons_len (aCons_len (aCons_len aNil_len))))))))) _ _ _ _ z]; decide)) (me_call c__law_digit (hr.mono (by decide)) rfl (ma_cons (mv 0) (ma_cons me_int ma_nil)) mkFn_np) (fun _ _ => rfl)))) mss_nil)
    (mss_one (ms_ret (me_ix (mf_lst (ma_cons me_int (ma_cons me_int (ma_cons me_int (ma_cons me_int ma_nil)))) (fun _ _ _ _ z => by rw [(aCons_len (aCons_len (aCons_len (aCons_len aNil_len)))) _ _ _ _ z]; decide)) (me_call c__law_digit (hr.mono (by decide)) rfl (ma_cons (mv 0) (ma_cons me_int ma_nil)) mkFn_np) (fun _ _ => rfl))))))
theorem sc__law_bar : FnScope ["_law_state", "_law_total", "_law_way"] ["_law_state", "_law_total"] (defScope s__law_bar) := ⟨rfl, rfl, rfl, by decide +kernel, rfl, by decide +kernel, by decide +kernel⟩
theorem ok__law_bar (F : Fun K "_law_bar" "_law_bar" s__law_bar f fd) (c__law_digit : Def P w K mg base "_law_digit" 1 2 F_l_digit) : FnOk P w K mg base CX0 2 f fd ["_law_state", "_law_total"] (spF K F_l_bar 2) := by
  refine fn_mk F sc__law_bar fun cdv A outer s H E hr => ?_
  have hu := hu24 hr
  exact (mss_cons (ms_set (i := 2) sc__law_bar.nd rfl (by first | exact .inl rfl | exact .inr rfl) (me_call c__law_digit (hr.mono (by decide)) rfl (ma_cons (mv 0) (ma_cons me_int ma_nil)) mkFn_np))
    (mss_cons (ms_if (mt_cmp op_lt og_B (mv 2) me_int (nomark _)) (mss_one (ms_ret (mv 1))) mss_nil)
    (mss_cons (ms_if (mt_cmp (op_eqG hu) og_eq (mv 2) me_int (nomark _)) (mss_one (ms_ret (me_op op_add2 og_add (me_op op_sub og_I (mv 1) me_int) (me_call c__law_digit (hr.mono (by decide)) rfl (ma_cons (mv 0) (ma_cons me_int ma_nil)) mkFn_np)))) mss_nil)
    (mss_cons (ms_if (mt_cmp op_lt og_B (mv 2) me_int (nomark _)) (mss_one (ms_ret (me_op op_sub og_I (me_call c__law_digit (hr.mono (by decide)) rfl (ma_cons (mv 0) (ma_cons (me_op op_add2 og_add (me_op op_mul og_mul me_int (mv 1)) me_int) ma_nil)) mkFn_np) me_int))) mss_nil)
    (mss_one (ms_ret (me_op op_add2 og_add (me_op op_sub og_I (me_call c__law_digit (hr.mono (by decide)) rfl (ma_cons (mv 0) (ma_cons (me_op op_sub og_I (me_op op_mul og_mul me_int (me_op op_pow og_pow me_int me_int)) me_int) ma_nil)) mkFn_np) (me_op op_pow og_pow me_int me_int)) me_int)))))))
theorem sc__law_web : FnScope ["_law_script", "_law_head", "_law_many", "_law_states", "_law_ties", "_law_k", "_law_sort", "_law_j", "_law_heavy", "_law_bars", "_law_stays"] ["_law_script"] (defScope s__law_web) := ⟨rfl, rfl, rfl, by decide +kernel, rfl, by decide +kernel, by decide +kernel⟩
theorem ok__law_web (F : Fun K "_law_web" "_law_web" s__law_web f fd) (m_tuple : mg "tuple" = none) (m_sorted : mg "sorted" = none) (m_range : mg "range" = none) (m_sum : mg "sum" = none) (c__law_digit : Def P w K mg base "_law_digit" 1 2 F_l_digit) (c__law_bar : Def P w K mg base "_law_bar" 2 2 F_l_bar) (c__law_weight : Def P w K mg base "_law_weight" 2 2 F_l_weight) (c__law_cell : Def P w K mg base "_law_cell" 2 2 F_l_cell) : FnOk P w K mg base CX0 3 f fd ["_law_script"] (spF K F_l_web 1) := by
  refine fn_mk F sc__law_web fun cdv A outer s H E hr => ?_
  have hu := hu24 hr
  exact (mss_cons (ms_set (i := 1) sc__law_web.nd rfl (by first | exact .inl rfl | exact .inr rfl) (me_new (mf_lst (ma_cons (me_op op_fdivB og_div (me_call c__law_cell (hr.mono (by decide)) rfl (ma_cons (mv 0) (ma_cons me_int ma_nil)) mkFn_np) me_int) ma_nil) (fun _ _ _ _ z => by rw [(aCons_len aNil_len) _ _ _ _ z]; decide))))
    (mss_cons (ms_set (i := 2) sc__law_web.nd rfl (by first | exact .inl rfl | exact .inr rfl) (me_op op_add2 og_add me_int (me_call c__law_digit (hr.mono (by decide)) rfl (ma_cons (mv 1) (ma_cons (me_ix (mf_lst (ma_cons me_int (ma_cons me_int (ma_cons me_int (ma_cons me_int ma_nil)))) (fun _ _ _ _ z => by rw [(aCons_len (aCons_len (aCons_len (aCons_len aNil_len)))) _ _ _ _ z]; decide)) (me_call c__law_digit (hr.mono (by decide)) rfl (ma_cons (mv 1) (ma_cons me_int ma_nil)) mkFn_np) (fun _ _ => rfl)) ma_nil)) mkFn_np)))
    (mss_cons (ms_setC (i := 3) sc__law_web.nd rfl (by first | exact .inl rfl | exact .inr rfl) (own := ["_law_k"]) (capn := ["_law_script"]) (caps := [0]) rfl (CScope.mk' rfl (by decide +kernel) (by decide +kernel) (by repeat' (first | exact FreeIn.nil | refine FreeIn.cons (by first | exact (fun _ => .inl rfl) | exact (fun _ => .inr rfl) | (intro z; cases z; done)) ?_)) (CapIn.cons rfl rfl CapIn.nil)) (mi_range rfl m_range (mv 2))
      (fun cl C s H ex => ⟨(mg_name (i := 0) (show ((["_law_k"] : List Str) ++ (["_law_script"] : List Str)).Nodup by decide +kernel) rfl (by first | exact .inl rfl | exact .inr rfl)), mts_nil, (me_new (mf_lst (ma_cons (me_call c__law_cell (hr.mono (by decide)) rfl (ma_cons (mv 1) (ma_cons (me_op op_add2 og_add me_int (mv 0)) ma_nil)) mkFn_np) ma_nil) (fun _ _ _ _ z => by rw [(aCons_len aNil_len) _ _ _ _ z]; decide)))⟩))
    (mss_cons (ms_setC (i := 4) sc__law_web.nd rfl (by first | exact .inl rfl | exact .inr rfl) (own := ["_law_k"]) (capn := []) (caps := []) rfl (CScope.mk' rfl (by decide +kernel) (by decide +kernel) (by repeat' (first | exact FreeIn.nil | refine FreeIn.cons (by first | exact (fun _ => .inl rfl) | exact (fun _ => .inr rfl) | (intro z; cases z; done)) ?_)) CapIn.nil) (mi_range rfl m_range (mv 2))
      (fun cl C s H ex => ⟨(mg_name (i := 0) (show ((["_law_k"] : List Str) ++ ([] : List Str)).Nodup by decide +kernel) rfl (by first | exact .inl rfl | exact .inr rfl)), mts_nil, (me_new (mf_lst ma_nil (fun _ _ _ _ z => by rw [aNil_len _ _ _ _ z]; decide)))⟩))
    (mss_cons (ms_for PassesOwn.never rfl (mi_range rfl m_range (mv 2)) (mg_name (i := 5) sc__law_web.nd rfl (by first | exact .inl rfl | exact .inr rfl)) (mss_cons (ms_set (i := 6) sc__law_web.nd rfl (by first | exact .inl rfl | exact .inr rfl) (me_call c__law_digit (hr.mono (by decide)) rfl (ma_cons (me_at (mv 3) (mv 5) (fun _ _ => rfl)) (ma_cons me_int ma_nil)) mkFn_np))
    (mss_one (ms_for PassesOwn.never rfl (mi_range rfl m_range (mv 5)) (mg_name (i := 7) sc__law_web.nd rfl (by first | exact .inl rfl | exact .inr rfl)) (mss_cons (ms_set (i := 8) sc__law_web.nd rfl (by first | exact .inl rfl | exact .inr rfl) (me_call c__law_weight (hr.mono (by decide)) rfl (ma_cons (me_at (mv 3) (mv 5) (fun _ _ => rfl)) (ma_cons (mv 6) ma_nil)) mkFn_np))
    (mss_one (ms_if (mt_cmp op_gt og_B (mv 8) me_int (nomark _)) (mss_cons (ms_expr (me_app (me_at (mv 4) (mv 5) (fun _ _ => rfl)) (me_tup (ma_cons (mv 7) (ma_cons (mv 8) ma_nil)))))
    (mss_one (ms_expr (me_app (me_at (mv 4) (mv 7) (fun _ _ => rfl)) (me_tup (ma_cons (mv 5) (ma_cons (mv 8) ma_nil))))))) mss_nil)))))))
    (mss_cons (ms_set (i := 9) sc__law_web.nd rfl (by first | exact .inl rfl | exact .inr rfl) (me_new (mf_lst ma_nil (fun _ _ _ _ z => by rw [aNil_len _ _ _ _ z]; decide))))
    (mss_cons (ms_set (i := 10) sc__law_web.nd rfl (by first | exact .inl rfl | exact .inr rfl) (me_new (mf_lst ma_nil (fun _ _ _ _ z => by rw [aNil_len _ _ _ _ z]; decide))))
    (mss_cons (ms_for PassesOwn.never rfl (mi_range rfl m_range (mv 2)) (mg_name (i := 5) sc__law_web.nd rfl (by first | exact .inl rfl | exact .inr rfl)) (mss_cons (ms_expr (me_app (mv 9) (me_call c__law_bar (hr.mono (by decide)) rfl (ma_cons (me_at (mv 3) (mv 5) (fun _ _ => rfl)) (ma_cons (me_sum rfl rfl m_sum (mq_new (mf_comp (own := ["_law_other", "_law_heavy"]) (capn := []) (caps := []) rfl (CScope.mk' rfl (by decide +kernel) (by decide +kernel) (by repeat' (first | exact FreeIn.nil | refine FreeIn.cons (by first | exact (fun _ => .inl rfl) | exact (fun _ => .inr rfl) | (intro z; cases z; done)) ?_)) CapIn.nil) (mi_seq (me_at (mv 4) (mv 5) (fun _ _ => rfl)))
      (fun cl C s H ex => ⟨(mg_tup rfl (mgs_cons (mg_name (i := 0) (show ((["_law_other", "_law_heavy"] : List Str) ++ ([] : List Str)).Nodup by decide +kernel) rfl (by first | exact .inl rfl | exact .inr rfl)) (mgs_cons (mg_name (i := 1) (show ((["_law_other", "_law_heavy"] : List Str) ++ ([] : List Str)).Nodup by decide +kernel) rfl (by first | exact .inl rfl | exact .inr rfl)) mgs_nil))), mts_nil, (mv 1)⟩)))) ma_nil)) mkFn_np)))
    (mss_one (ms_expr (me_app (mv 10) (me_ix (mf_lst (ma_cons me_non (ma_cons me_non (ma_cons me_non (ma_cons me_non (ma_cons me_non (ma_cons me_int (ma_cons me_int ma_nil))))))) (fun _ _ _ _ z => by rw [(aCons_len (aCons_len (aCons_len (aCons_len (aCons_len (aCons_len (aCons_len aNil_len))))))) _ _ _ _ z]; decide)) (me_call c__law_digit (hr.mono (by decide)) rfl (ma_cons (me_at (mv 3) (mv 5) (fun _ _ => rfl)) (ma_cons me_int ma_nil)) mkFn_np) (fun _ _ => rfl)))))))
    (mss_one (ms_ret (me_tup (ma_cons (me_tup (ma_cons (me_tupL rfl m_tuple (mq_new (mf_comp (own := ["_law_some"]) (capn := []) (caps := []) rfl (CScope.mk' rfl (by decide +kernel) (by decide +kernel) (by repeat' (first | exact FreeIn.nil | refine FreeIn.cons (by first | exact (fun _ => .inl rfl) | exact (fun _ => .inr rfl) | (intro z; cases z; done)) ?_)) CapIn.nil) (mi_seq (mv 4))
      (fun cl C s H ex => ⟨(mg_name (i := 0) (show ((["_law_some"] : List Str) ++ ([] : List Str)).Nodup by decide +kernel) rfl (by first | exact .inl rfl | exact .inr rfl)), mts_nil, (me_tupL rfl m_tuple (mq_new (mf_sortR rfl m_sorted (mv 0))))⟩)))) (ma_cons (me_tupL rfl m_tuple (mq_of (mv 9))) (ma_cons (me_tupL rfl m_tuple (mq_of (mv 10))) ma_nil)))) (ma_cons (mv 3) (ma_cons (mv 1) ma_nil))))))))))))))
theorem sc__law_stand : FnScope ["_law_web_here", "_law_states", "_law_found", "_law_k", "_law_held"] ["_law_web_here", "_law_states"] (defScope s__law_stand) := ⟨rfl, rfl, rfl, by decide +kernel, rfl, by decide +kernel, by decide +kernel⟩
theorem ok__law_stand (F : Fun K "_law_stand" "_law_stand" s__law_stand f fd) (m_tuple : mg "tuple" = none) (m_range : mg "range" = none) (m_len : mg "len" = none) (c__law_digit : Def P w K mg base "_law_digit" 1 2 F_l_digit) : FnOk P w K mg base CX0 2 f fd ["_law_web_here", "_law_states"] (spF K F_l_stand 2) := by
  refine fn_mk F sc__law_stand fun cdv A outer s H E hr => ?_
  have hu := hu24 hr
  exact (mss_cons (ms_set (i := 2) sc__law_stand.nd rfl (by first | exact .inl rfl | exact .inr rfl) (me_new (mf_lst ma_nil (fun _ _ _ _ z => by rw [aNil_len _ _ _ _ z]; decide))))
    (mss_cons (ms_for PassesOwn.never rfl (mi_range rfl m_range (me_len rfl m_len (mq_of (mv 1)))) (mg_name (i := 3) sc__law_stand.nd rfl (by first | exact .inl rfl | exact .inr rfl)) (mss_cons (ms_set (i := 4) sc__law_stand.nd rfl (by first | exact .inl rfl | exact .inr rfl) (me_call c__law_digit (hr.mono (by decide)) rfl (ma_cons (me_at (mv 1) (mv 3) (fun _ _ => rfl)) (ma_cons me_int ma_nil)) mkFn_np))
    (mss_cons (ms_if (mt_cmp op_notN og_isNotN (me_at (me_at (mv 0) me_int (fun _ _ => rfl)) (mv 3) (fun _ _ => rfl)) me_non (nomark _)) (mss_one (ms_set (i := 4) sc__law_stand.nd rfl (by first | exact .inl rfl | exact .inr rfl) (me_at (me_at (mv 0) me_int (fun _ _ => rfl)) (mv 3) (fun _ _ => rfl)))) mss_nil)
    (mss_one (ms_expr (me_app (mv 2) (mv 4)))))))
    (mss_one (ms_ret (me_tupL rfl m_tuple (mq_of (mv 2)))))))
theorem sc__law_turn : FnScope ["_law_web_here", "_law_stand_here", "_law_found", "_law_k", "_law_force", "_law_held"] ["_law_web_here", "_law_stand_here"] (defScope s__law_turn) := ⟨rfl, rfl, rfl, by decide +kernel, rfl, by decide +kernel, by decide +kernel⟩
theorem ok__law_turn (F : Fun K "_law_turn" "_law_turn" s__law_turn f fd) (m_tuple : mg "tuple" = none) (m_range : mg "range" = none) (m_len : mg "len" = none) (m_int : mg "int" = none) (m_sum : mg "sum" = none) : FnOk P w K mg base CX0 1 f fd ["_law_web_here", "_law_stand_here"] (spF K F_l_turn 2) := by
  refine fn_mk F sc__law_turn fun cdv A outer s H E hr => ?_
  have hu := hu24 hr
  exact (mss_cons (ms_set (i := 2) sc__law_turn.nd rfl (by first | exact .inl rfl | exact .inr rfl) (me_new (mf_lst ma_nil (fun _ _ _ _ z => by rw [aNil_len _ _ _ _ z]; decide))))
    (mss_cons (ms_for PassesOwn.never rfl (mi_range rfl m_range (me_len rfl m_len (mq_of (mv 1)))) (mg_name (i := 3) sc__law_turn.nd rfl (by first | exact .inl rfl | exact .inr rfl)) (mss_cons (ms_set (i := 4) sc__law_turn.nd rfl (by first | exact .inl rfl | exact .inr rfl) (me_op op_mul og_mul me_int (me_sum rfl rfl m_sum (mq_new (mf_comp (own := ["_law_other", "_law_heavy"]) (capn := ["_law_stand_here"]) (caps := [1]) rfl (CScope.mk' rfl (by decide +kernel) (by decide +kernel) (by repeat' (first | exact FreeIn.nil | refine FreeIn.cons (by first | exact (fun _ => .inl rfl) | exact (fun _ => .inr rfl) | (intro z; cases z; done)) ?_)) (CapIn.cons rfl rfl CapIn.nil)) (mi_seq (me_at (me_at (mv 0) me_int (fun _ _ => rfl)) (mv 3) (fun _ _ => rfl)))
      (fun cl C s H ex => ⟨(mg_tup rfl (mgs_cons (mg_name (i := 0) (show ((["_law_other", "_law_heavy"] : List Str) ++ (["_law_stand_here"] : List Str)).Nodup by decide +kernel) rfl (by first | exact .inl rfl | exact .inr rfl)) (mgs_cons (mg_name (i := 1) (show ((["_law_other", "_law_heavy"] : List Str) ++ (["_law_stand_here"] : List Str)).Nodup by decide +kernel) rfl (by first | exact .inl rfl | exact .inr rfl)) mgs_nil))), (mts_one (mt_cmp (op_eqG hu) og_eq (me_at (mv 2) (mv 0) (fun _ _ => rfl)) me_int (nomark _))), (mv 1)⟩))))))
    (mss_cons (ms_set (i := 5) sc__law_turn.nd rfl (by first | exact .inl rfl | exact .inr rfl) (me_at (mv 1) (mv 3) (fun _ _ => rfl)))
    (mss_cons (ms_if (mt_cmp op_notN og_isNotN (me_at (me_at (mv 0) me_int (fun _ _ => rfl)) (mv 3) (fun _ _ => rfl)) me_non (nomark _)) (mss_one (ms_set (i := 5) sc__law_turn.nd rfl (by first | exact .inl rfl | exact .inr rfl) (me_at (me_at (mv 0) me_int (fun _ _ => rfl)) (mv 3) (fun _ _ => rfl)))) (mss_one (ms_if (mt_cmp (op_neG hu) og_ne (mv 4) (me_at (me_at (mv 0) me_int (fun _ _ => rfl)) (mv 3) (fun _ _ => rfl)) (nomark _)) (mss_one (ms_set (i := 5) sc__law_turn.nd rfl (by first | exact .inl rfl | exact .inr rfl) (me_intc rfl m_int (me_cmp op_gt og_B (mv 4) (me_at (me_at (mv 0) me_int (fun _ _ => rfl)) (mv 3) (fun _ _ => rfl)) (nomark _))))) mss_nil)))
    (mss_one (ms_expr (me_app (mv 2) (mv 5))))))))
    (mss_one (ms_ret (me_tupL rfl m_tuple (mq_of (mv 2)))))))
theorem sc__law_turns : FnScope ["_law_head", "_law_many", "_law_way"] ["_law_head", "_law_many"] (defScope s__law_turns) := ⟨rfl, rfl, rfl, by decide +kernel, rfl, by decide +kernel, by decide +kernel⟩
theorem ok__law_turns (F : Fun K "_law_turns" "_law_turns" s__law_turns f fd) (c__law_digit : Def P w K mg base "_law_digit" 1 2 F_l_digit) : FnOk P w K mg base CX0 2 f fd ["_law_head", "_law_many"] (spF K F_l_turns 2) := by
  refine fn_mk F sc__law_turns fun cdv A outer s H E hr => ?_
  have hu := hu24 hr
  exact (mss_cons (ms_set (i := 2) sc__law_turns.nd rfl (by first | exact .inl rfl | exact .inr rfl) (me_call c__law_digit (hr.mono (by decide)) rfl (ma_cons (mv 0) (ma_cons me_int ma_nil)) mkFn_np))
    (mss_cons (ms_if (MW.mt (mw_and (mt_cmp (op_eqG hu) og_eq (mv 2) me_int (nomark _)) (mw_one (mt_cmp op_lt og_B (mv 1) me_int (nomark _)) (.inl rfl)))) (mss_one (ms_ret (me_op op_sub og_I me_int (me_call c__law_digit (hr.mono (by decide)) rfl (ma_cons (mv 0) (ma_cons me_int ma_nil)) mkFn_np)))) mss_nil)
    (mss_cons (ms_if (MW.mt (mw_and (mt_cmp (op_eqG hu) og_eq (mv 2) me_int (nomark _)) (mw_one (mt_cmp op_lt og_B (mv 1) me_int (nomark _)) (.inl rfl)))) (mss_one (ms_ret (me_call c__law_digit (hr.mono (by decide)) rfl (ma_cons (mv 0) (ma_cons me_int ma_nil)) mkFn_np))) mss_nil)
    (mss_one (ms_ret (me_call c__law_digit (hr.mono (by decide)) rfl (ma_cons (mv 0) (ma_cons me_int ma_nil)) mkFn_np))))))
theorem sc__law_are_stands : FnScope ["_law_found", "_law_due", "_law_stand_here", "_law_held"] ["_law_found", "_law_due"] (defScope s__law_are_stands) := ⟨rfl, rfl, rfl, by decide +kernel, rfl, by decide +kernel, by decide +kernel⟩
theorem ok__law_are_stands (F : Fun K "_law_are_stands" "_law_are_stands" s__law_are_stands f fd) (m_isinstance : mg "isinstance" = none) (m_bool : mg "bool" = none) (m_int : mg "int" = none) (m_tuple : mg "tuple" = none) (m_list : mg "list" = none) : FnOk P w K mg base CX0 1 f fd ["_law_found", "_law_due"] (spF K F_l_are_stands 2) := by
  refine fn_mk F sc__law_are_stands fun cdv A outer s H E hr => ?_
  have hu := hu24 hr
  exact (mss_cons (ms_if (MW.mt (mw_or (mt_not (mt_val (me_isTy (t := .list) rfl m_isinstance rfl m_list (by decide +kernel) (mv 0)))) (mw_one (mt_cmp (op_neG hu) og_ne (mv 0) (mv 1) (nomark _)) (.inr rfl)))) (mss_one (ms_ret me_bl)) mss_nil)
    (mss_cons (ms_for PassesOwn.never rfl (mi_seq (mv 0)) (mg_name (i := 2) sc__law_are_stands.nd rfl (by first | exact .inl rfl | exact .inr rfl)) (mss_cons (ms_if (mt_not (mt_val (me_isTy (t := .tuple) rfl m_isinstance rfl m_tuple (by decide +kernel) (mv 2)))) (mss_one (ms_ret me_bl)) mss_nil)
    (mss_one (ms_for PassesOwn.never rfl (mi_seq (mv 2)) (mg_name (i := 3) sc__law_are_stands.nd rfl (by first | exact .inl rfl | exact .inr rfl)) (mss_one (ms_if (MW.mt (mw_or (mt_not (mt_val (me_isTy (t := .int) rfl m_isinstance rfl m_int (by decide +kernel) (mv 3)))) (mw_one (mt_val (me_isTy (t := .bool) rfl m_isinstance rfl m_bool (by decide +kernel) (mv 3))) (.inr rfl)))) (mss_one (ms_ret me_bl)) mss_nil))))))
    (mss_one (ms_ret me_bl))))
theorem sc__law_none : FnScope ["_law_web_here", "_law_stand_here", "_law_cell_here", "_law_at", "_law_some", "_law_held", "_law_staying", "_law_spot"] ["_law_web_here", "_law_stand_here", "_law_cell_here"] (defScope s__law_none) := ⟨rfl, rfl, rfl, by decide +kernel, rfl, by decide +kernel, by decide +kernel⟩
theorem ok__law_none (F : Fun K "_law_none" "_law_none" s__law_none f fd) (m_len : mg "len" = none) (m_range : mg "range" = none) (m_list : mg "list" = none) : FnOk P w K mg base CX0 1 f fd ["_law_web_here", "_law_stand_here", "_law_cell_here"] (spF K F_l_none 3) := by
  refine fn_mk F sc__law_none fun cdv A outer s H E hr => ?_
  have hu := hu24 hr
  exact (mss_cons (ms_set (i := 3) sc__law_none.nd rfl (by first | exact .inl rfl | exact .inr rfl) (me_op op_mod og_mod (mv 2) (me_len rfl m_len (mq_of (mv 1)))))
    (mss_cons (ms_set (i := 4) sc__law_none.nd rfl (by first | exact .inl rfl | exact .inr rfl) (me_new (mf_lst (ma_cons (me_new (mf_list rfl m_list (mq_of (mv 1)))) (ma_cons (me_op op_add2 og_add (mv 1) (me_tup (ma_cons me_int ma_nil))) (ma_cons (me_slice (mv 1) mo_no (mo_at me_negC)) (ma_cons me_non (ma_cons me_int (ma_cons (me_str [48, 49] rfl) (ma_cons (me_tup ma_nil) (ma_cons (me_new (mf_lst (ma_cons (mv 1) ma_nil) (fun _ _ _ _ z => by rw [(aCons_len aNil_len) _ _ _ _ z]; decide))) (ma_cons (me_op op_add2 og_add (mv 1) (mv 1)) ma_nil))))))))) (fun _ _ _ _ z => by rw [(aCons_len (aCons_len (aCons_len (aCons_len (aCons_len (aCons_len (aCons_len (aCons_len (aCons_len aNil_len))))))))) _ _ _ _ z]; decide))))
    (mss_cons (ms_for PassesOwn.never rfl (mi_new (mf_lst (ma_cons me_int (ma_cons me_negC (ma_cons me_bl (ma_cons me_bl (ma_cons me_non (ma_cons (me_str [49] rfl) (ma_cons (me_op op_pow og_pow me_int me_int) (ma_cons (me_tup (ma_cons me_int ma_nil)) ma_nil)))))))) (fun _ _ _ _ z => by rw [(aCons_len (aCons_len (aCons_len (aCons_len (aCons_len (aCons_len (aCons_len (aCons_len aNil_len)))))))) _ _ _ _ z]; decide))) (mg_name (i := 5) sc__law_none.nd rfl (by first | exact .inl rfl | exact .inr rfl)) (mss_one (ms_expr (me_app (mv 4) (me_op op_addT og_addT (me_op op_addT og_addT (me_slice (mv 1) mo_no (mo_at (mv 3))) (me_tup (ma_cons (mv 5) ma_nil))) (me_slice (mv 1) (mo_at (me_op op_add2 og_add (mv 3) me_int)) mo_no))))))
    (mss_cons (ms_setC (i := 6) sc__law_none.nd rfl (by first | exact .inl rfl | exact .inr rfl) (own := ["_law_k"]) (capn := ["_law_web_here"]) (caps := [0]) rfl (CScope.mk' rfl (by decide +kernel) (by decide +kernel) (by repeat' (first | exact FreeIn.nil | refine FreeIn.cons (by first | exact (fun _ => .inl rfl) | exact (fun _ => .inr rfl) | (intro z; cases z; done)) ?_)) (CapIn.cons rfl rfl CapIn.nil)) (mi_range rfl m_range (me_len rfl m_len (mq_of (mv 1))))
      (fun cl C s H ex => ⟨(mg_name (i := 0) (show ((["_law_k"] : List Str) ++ (["_law_web_here"] : List Str)).Nodup by decide +kernel) rfl (by first | exact .inl rfl | exact .inr rfl)), (mts_one (mt_cmp op_notN og_isNotN (me_at (me_at (mv 1) me_int (fun _ _ => rfl)) (mv 0) (fun _ _ => rfl)) me_non (nomark _))), (mv 0)⟩))
    (mss_cons (ms_if (mt_cmp (op_neG hu) og_ne (mv 6) (me_new (mf_lst ma_nil (fun _ _ _ _ z => by rw [aNil_len _ _ _ _ z]; decide))) (nomark _)) (mss_cons (ms_set (i := 7) sc__law_none.nd rfl (by first | exact .inl rfl | exact .inr rfl) (me_at (mv 6) (me_op op_mod og_mod (me_op op_fdivB og_div (mv 2) me_int) (me_len rfl m_len (mq_of (mv 6)))) (fun _ _ => rfl)))
    (mss_one (ms_set (i := 4) sc__law_none.nd rfl (by first | exact .inl rfl | exact .inr rfl) (me_new (mf_catE (mv 4) (me_new (mf_rep (mf_lst (ma_cons (me_op op_addT og_addT (me_op op_addT og_addT (me_slice (mv 1) mo_no (mo_at (mv 7))) (me_tup (ma_cons (me_op op_sub og_I me_int (me_at (mv 1) (mv 7) (fun _ _ => rfl))) ma_nil))) (me_slice (mv 1) (mo_at (me_op op_add2 og_add (mv 7) me_int)) mo_no)) ma_nil) (fun _ _ _ _ z => by rw [(aCons_len aNil_len) _ _ _ _ z]; decide)) me_int))))))) mss_nil)
    (mss_one (ms_ret (me_at (mv 4) (me_op op_mod og_mod (me_op op_fdivB og_div (mv 2) me_int) (me_len rfl m_len (mq_of (mv 4)))) (fun _ _ => rfl)))))))))
theorem sc__law_too_long : FnScope ["_law_web_here", "_law_stand_here", "_law_turns_here", "_law_caught", "error", "_law_others"] ["_law_web_here", "_law_stand_here", "_law_turns_here"] (defScope s__law_too_long) := ⟨rfl, rfl, rfl, by decide +kernel, rfl, by decide +kernel, by decide +kernel⟩
theorem oky_check_stand (F0 : Fun K "check_stand" "check_stand" s_check_stand f fd) (c_fits : Def P w K mg base "fits" 4 2 F_fits) {C_NoStand : Addr} (o_NoStand : PyProof.Rows.OwnCls (Str.ofString "NoStand") C_NoStand bmVE "ValueError.__new__" mg base) : FnOk P w K mg base (CX1 P w) 5 f fd ["web", "thing"] (spY K mg FY_check_stand 2) := by
  refine fny_mk F0 sc_check_stand fun cdv A outer s H E hr => ?_
  have hu := hu24 hr
  exact (nss_one (ns_if (mt_not (mt_val (me_call c_fits (hr.mono (by decide)) rfl (ma_cons (mv 0) (ma_cons (mv 1) ma_nil)) mkFn_np))) (nss_one (ns_raise (n := "NoStand") o_NoStand F.excBase_ValueError rfl rfl (fun e s' h => leave1 h))) nss_nil))
theorem oky_history (F0 : Fun K "history" "history" s_history f fd) (m_range : mg "range" = none) (c_turn_at : Def P w K mg base "turn_at" 4 2 F_turn_at) {t_MOST_TURNS : Tok} (g_MOST_TURNS : mg "MOST_TURNS" = some (.int 400 t_MOST_TURNS)) (y_check_stand : DefY P w K mg base "check_stand" 5 2 FY_check_stand) {C_TooLong : Addr} (o_TooLong : PyProof.Rows.OwnCls (Str.ofString "TooLong") C_TooLong bmVE "ValueError.__new__" mg base) : FnOk P w K mg base (CX1 P w) 6 f fd ["web", "stand", "turns"] (spY K mg FY_history 3) := by
  refine fny_mk F0 sc_history fun cdv A outer s H E hr => ?_
  have hu := hu24 hr
  exact (nss_cons (ns_expr (ne_call y_check_stand (hr.mono (by decide)) rfl (na_of (ma_cons (mv 0) (ma_cons (mv 1) ma_nil))) (fun v s' h => leave1 h.xp) mkFn_ne))
    (nss_cons (ns_if (mt_cmp op_gt og_B (mv 2) (me_globI rfl g_MOST_TURNS) (nomark _)) (nss_one (ns_raise (n := "TooLong") o_TooLong F.excBase_ValueError rfl rfl (fun e s' h => leave1 h))) nss_nil)
    (nss_cons (ns_of (ms_set (i := 3) sc_history.nd rfl (by first | exact .inl rfl | exact .inr rfl) (me_new (mf_lst (ma_cons (mv 1) ma_nil) (fun _ _ _ _ z => by rw [(aCons_len aNil_len) _ _ _ _ z]; decide)))))
    (nss_cons (ns_of (ms_for PassesOwn.leaving rfl (mi_range rfl m_range (mv 2)) (mg_name (i := 4) sc_history.nd rfl (by first | exact .inl rfl | exact .inr rfl)) (mss_one (ms_expr (me_app (mv 3) (me_call c_turn_at (hr.mono (by decide)) rfl (ma_cons (mv 0) (ma_cons (me_at (mv 3) (mv 4) (fun _ _ => rfl)) ma_nil)) mkFn_np))))))
    (nss_one (ns_of (ms_ret (mv 3))))))))
theorem oky_ended (F0 : Fun K "ended" "ended" s_ended f fd) (m_len : mg "len" = none) (c_turn_at : Def P w K mg base "turn_at" 4 2 F_turn_at) (y_check_stand : DefY P w K mg base "check_stand" 5 2 FY_check_stand) : FnOk P w K mg base (CX1 P w) 6 f fd ["web", "stand"] (spY K mg FY_ended 2) := by
  refine fny_mk F0 sc_ended fun cdv A outer s H E hr => ?_
  have hu := hu24 hr
  exact (nss_cons (ns_expr (ne_call y_check_stand (hr.mono (by decide)) rfl (na_of (ma_cons (mv 0) (ma_cons (mv 1) ma_nil))) (fun v s' h => leave1 h.xp) mkFn_ne))
    (nss_cons (ns_of (ms_set (i := 2) sc_ended.nd rfl (by first | exact .inl rfl | exact .inr rfl) (me_new (mf_lst (ma_cons (mv 1) (ma_cons (me_call c_turn_at (hr.mono (by decide)) rfl (ma_cons (mv 0) (ma_cons (mv 1) ma_nil)) mkFn_np) ma_nil)) (fun _ _ _ _ z => by rw [(aCons_len (aCons_len aNil_len)) _ _ _ _ z]; decide)))))
    (nss_cons (ns_of (ms_set (i := 3) sc_ended.nd rfl (by first | exact .inl rfl | exact .inr rfl) (me_call c_turn_at (hr.mono (by decide)) rfl (ma_cons (mv 0) (ma_cons (me_at (mv 2) me_int (fun _ _ => rfl)) ma_nil)) mkFn_np)))
    (nss_cons (ns_of (ms_while PassesOwn.leaving (mt_cmp (op_neG hu) og_ne (mv 3) (me_at (mv 2) me_negC (fun _ _ => rfl)) (nomark _)) (mss_cons (ms_expr (me_app (mv 2) (mv 3)))
    (mss_one (ms_set (i := 3) sc_ended.nd rfl (by first | exact .inl rfl | exact .inr rfl) (me_call c_turn_at (hr.mono (by decide)) rfl (ma_cons (mv 0) (ma_cons (mv 3) ma_nil)) mkFn_np))))))
    (nss_cons (ns_of (ms_set (i := 4) sc_ended.nd rfl (by first | exact .inl rfl | exact .inr rfl) (me_if (mt_cmp (op_eqG hu) og_eq (me_at (mv 2) me_negC (fun _ _ => rfl)) (me_at (mv 2) me_negC (fun _ _ => rfl)) (nomark _)) (me_str [114, 101, 115, 116] rfl) (me_str [112, 97, 105, 114] rfl))))
    (nss_one (ns_of (ms_ret (me_tup (ma_cons (me_op op_sub og_I (me_len rfl m_len (mq_of (mv 2))) me_int) (ma_cons (mv 4) (ma_cons (mv 2) ma_nil))))))))))))
theorem oky_sums (F0 : Fun K "sums" "sums" s_sums f fd) (m_range : mg "range" = none) (m_len : mg "len" = none) (c_sum_at : Def P w K mg base "sum_at" 3 3 F_sum_at) (y_check_stand : DefY P w K mg base "check_stand" 5 2 FY_check_stand) : FnOk P w K mg base (CX1 P w) 6 f fd ["web", "stands"] (spY K mg FY_sums 2) := by
  refine fny_mk F0 sc_sums fun cdv A outer s H E hr => ?_
  have hu := hu24 hr
  exact (nss_cons (ns_for PassesOwn.leaving rfl (mi_seq (mv 1)) (mg_name (i := 2) sc_sums.nd rfl (by first | exact .inl rfl | exact .inr rfl)) (nss_one (ns_expr (ne_call y_check_stand (hr.mono (by decide)) rfl (na_of (ma_cons (mv 0) (ma_cons (mv 2) ma_nil))) (fun v s' h => leave1 h.xp) mkFn_ne))))
    (nss_one (ns_of (ms_ret (me_new (mf_comp (own := ["place"]) (capn := ["web", "stands"]) (caps := [0, 1]) rfl (CScope.mk' rfl (by decide +kernel) (by decide +kernel) (by repeat' (first | exact FreeIn.nil | refine FreeIn.cons (by first | exact (fun _ => .inl rfl) | exact (fun _ => .inr rfl) | (intro z; cases z; done)) ?_)) (CapIn.cons rfl rfl (CapIn.cons rfl rfl CapIn.nil))) (mi_range rfl m_range (me_op op_sub og_I (me_len rfl m_len (mq_of (mv 1))) me_int))
      (fun cl C s H ex => ⟨(mg_name (i := 0) (show ((["place"] : List Str) ++ (["web", "stands"] : List Str)).Nodup by decide +kernel) rfl (by first | exact .inl rfl | exact .inr rfl)), mts_nil, (me_call c_sum_at (hr.mono (by decide)) rfl (ma_cons (mv 1) (ma_cons (me_at (mv 2) (mv 0) (fun _ _ => rfl)) (ma_cons (me_at (mv 2) (me_op op_add2 og_add (mv 0) me_int) (fun _ _ => rfl)) ma_nil))) mkFn_np)⟩)))))))
theorem ok__law_too_long (F : Fun K "_law_too_long" "_law_too_long" s__law_too_long f fd) (m_isinstance : mg "isinstance" = none) (m_ValueError : mg "ValueError" = none) (y_history : DefY P w K mg base "history" 6 3 FY_history) {C_MostError C_TooLong C_NoOrder C_NoPeople C_NoRest C_NoRow C_NoStand C_NoText C_NoWeb C_TooMuch : Addr} (g_MostError : mg "MostError" = some (.ref C_MostError)) (g_TooLong : mg "TooLong" = some (.ref C_TooLong)) (g_NoOrder : mg "NoOrder" = some (.ref C_NoOrder)) (g_NoPeople : mg "NoPeople" = some (.ref C_NoPeople)) (g_NoRest : mg "NoRest" = some (.ref C_NoRest)) (g_NoRow : mg "NoRow" = some (.ref C_NoRow)) (g_NoStand : mg "NoStand" = some (.ref C_NoStand)) (g_NoText : mg "NoText" = some (.ref C_NoText)) (g_NoWeb : mg "NoWeb" = some (.ref C_NoWeb)) (g_TooMuch : mg "TooMuch" = some (.ref C_TooMuch)) (h_be : PySem.W.subIn K (.ref C_MostError) (.type "BaseException") = some true) (h_is : (PySem.W.clsIn K C_MostError).isSome = true) (h_ty : PySem.W.typeIn K (.ref C_MostError) = some (.type "type")) (h_sub : PySem.W.subIn K (.ref C_TooLong) (.ref C_MostError) = some true) (Z : XCls K C_TooLong) (k8 : PySem.W.kitAny K (.ref C_TooLong) [.ref C_NoOrder, .ref C_NoPeople, .ref C_NoRest, .ref C_NoRow, .ref C_NoStand, .ref C_NoText, .ref C_NoWeb, .ref C_TooMuch] = some false) (kA : PySem.W.kitOne K (.ref C_TooLong) (.ref C_TooLong) = some true) (kV : PySem.W.kitOne K (.ref C_TooLong) (.type "ValueError") = some true) : FnOk P w K mg base CX0 7 f fd ["_law_web_here", "_law_stand_here", "_law_turns_here"] (spF K F_l_too_long 3) := by
  refine fn_mk F sc__law_too_long fun cdv A outer s H E hr => ?_
  have hu := hu24 hr
  exact (mss_ref (i := 3) (j := 4) rfl (fun q E => (nss_one (ns_expr (ne_call y_history (hr.mono (by decide)) rfl (na_of (ma_cons (mv 0) (ma_cons (mv 1) (ma_cons (mv 2) ma_nil)))) (fun v s' h => h.unwish) mkFn_ne)))) rfl rfl g_MostError rfl h_be h_is h_ty sc__law_too_long.nd (by decide) rfl rfl rfl rfl (nm := "TooLong") g_TooLong h_sub
    (tail_and (i := 3) (o := 5) sc__law_too_long.nd rfl rfl rfl rfl (by decide) rfl m_isinstance rfl m_ValueError rfl g_TooLong (pa_cls rfl g_NoOrder (pa_cls rfl g_NoPeople (pa_cls rfl g_NoRest (pa_cls rfl g_NoRow (pa_cls rfl g_NoStand (pa_cls rfl g_NoText (pa_cls rfl g_NoWeb (pa_cls rfl g_TooMuch pa_cls0)))))))) rfl Z k8 kA kV (by show 8 ≤ sizeLine; decide) (by decide) (by decide) (by decide) (by decide) (by decide)))
theorem sc__law_refused : FnScope ["_law_web_here", "_law_stand_here", "_law_thing", "_law_way", "_law_caught", "error", "_law_others"] ["_law_web_here", "_law_stand_here", "_law_thing", "_law_way"] (defScope s__law_refused) := ⟨rfl, rfl, rfl, by decide +kernel, rfl, by decide +kernel, by decide +kernel⟩
theorem ok__law_refused (F : Fun K "_law_refused" "_law_refused" s__law_refused f fd) (m_isinstance : mg "isinstance" = none) (m_ValueError : mg "ValueError" = none) (m_len : mg "len" = none) (y_history : DefY P w K mg base "history" 6 3 FY_history) (y_ended : DefY P w K mg base "ended" 6 2 FY_ended) (y_sums : DefY P w K mg base "sums" 6 2 FY_sums) {C_MostError C_NoStand C_NoOrder C_NoPeople C_NoRest C_NoRow C_NoText C_NoWeb C_TooLong C_TooMuch : Addr} (g_MostError : mg "MostError" = some (.ref C_MostError)) (g_NoStand : mg "NoStand" = some (.ref C_NoStand)) (g_NoOrder : mg "NoOrder" = some (.ref C_NoOrder)) (g_NoPeople : mg "NoPeople" = some (.ref C_NoPeople)) (g_NoRest : mg "NoRest" = some (.ref C_NoRest)) (g_NoRow : mg "NoRow" = some (.ref C_NoRow)) (g_NoText : mg "NoText" = some (.ref C_NoText)) (g_NoWeb : mg "NoWeb" = some (.ref C_NoWeb)) (g_TooLong : mg "TooLong" = some (.ref C_TooLong)) (g_TooMuch : mg "TooMuch" = some (.ref C_TooMuch)) (h_be : PySem.W.subIn K (.ref C_MostError) (.type "BaseException") = some true) (h_is : (PySem.W.clsIn K C_MostError).isSome = true) (h_ty : PySem.W.typeIn K (.ref C_MostError) = some (.type "type")) (h_sub : PySem.W.subIn K (.ref C_NoStand) (.ref C_MostError) = some true) (Z : XCls K C_NoStand) (k8 : PySem.W.kitAny K (.ref C_NoStand) [.ref C_NoOrder, .ref C_NoPeople, .ref C_NoRest, .ref C_NoRow, .ref C_NoText, .ref C_NoWeb, .ref C_TooLong, .ref C_TooMuch] = some false) (kA : PySem.W.kitOne K (.ref C_NoStand) (.ref C_NoStand) = some true) (kV : PySem.W.kitOne K (.ref C_NoStand) (.type "ValueError") = some true) : FnOk P w K mg base CX0 7 f fd ["_law_web_here", "_law_stand_here", "_law_thing", "_law_way"] (spF K F_l_refused 4) := by
  refine fn_mk F sc__law_refused fun cdv A outer s H E hr => ?_
  have hu := hu24 hr
  exact (mss_ref (i := 4) (j := 5) rfl (fun q E => (nss_one (ns_if (mt_cmp (op_eqG hu) og_eq (mv 3) me_int (nomark _)) (nss_one (ns_expr (ne_call y_history (hr.mono (by decide)) rfl (na_of (ma_cons (mv 0) (ma_cons (mv 2) (ma_cons (me_ix (mf_lst (ma_cons me_int (ma_cons me_int ma_nil)) (fun _ _ _ _ z => by rw [(aCons_len (aCons_len aNil_len)) _ _ _ _ z]; decide)) (me_op op_mod og_mod (me_len rfl m_len (mq_of (mv 1))) me_int) (fun _ _ => rfl)) ma_nil)))) (fun v s' h => h.unwish) mkFn_ne))) (nss_one (ns_if (mt_cmp (op_eqG hu) og_eq (mv 3) me_int (nomark _)) (nss_one (ns_expr (ne_call y_ended (hr.mono (by decide)) rfl (na_of (ma_cons (mv 0) (ma_cons (mv 2) ma_nil))) (fun v s' h => h.unwish) mkFn_ne))) (nss_one (ns_if (mt_cmp (op_eqG hu) og_eq (mv 3) me_int (nomark _)) (nss_one (ns_expr (ne_call y_sums (hr.mono (by decide)) rfl (na_of (ma_cons (mv 0) (ma_cons (me_new (mf_lst (ma_cons (mv 1) (ma_cons (mv 2) ma_nil)) (fun _ _ _ _ z => by rw [(aCons_len (aCons_len aNil_len)) _ _ _ _ z]; decide))) ma_nil))) (fun v s' h => h.unwish) mkFn_ne))) (nss_one (ns_expr (ne_call y_sums (hr.mono (by decide)) rfl (na_of (ma_cons (mv 0) (ma_cons (me_new (mf_lst (ma_cons (mv 2) (ma_cons (mv 1) (ma_cons (mv 1) ma_nil))) (fun _ _ _ _ z => by rw [(aCons_len (aCons_len (aCons_len aNil_len))) _ _ _ _ z]; decide))) ma_nil))) (fun v s' h => h.unwish) mkFn_ne)))))))))) rfl rfl g_MostError rfl h_be h_is h_ty sc__law_refused.nd (by decide) rfl rfl rfl rfl (nm := "NoStand") g_NoStand h_sub
    (tail_and (i := 4) (o := 6) sc__law_refused.nd rfl rfl rfl rfl (by decide) rfl m_isinstance rfl m_ValueError rfl g_NoStand (pa_cls rfl g_NoOrder (pa_cls rfl g_NoPeople (pa_cls rfl g_NoRest (pa_cls rfl g_NoRow (pa_cls rfl g_NoText (pa_cls rfl g_NoWeb (pa_cls rfl g_TooLong (pa_cls rfl g_TooMuch pa_cls0)))))))) rfl Z k8 kA kV (by show 8 ≤ sizeLine; decide) (by decide) (by decide) (by decide) (by decide) (by decide)))
theorem sc_law : FnScope ["_law_script", "_law_web_here", "_law_states", "_law_head", "_law_stand_here", "_law_turns_here", "_law_due", "_law_k", "_law_found", "_law_way"] ["_law_script"] (defScope s_law) := ⟨rfl, rfl, rfl, by decide +kernel, rfl, by decide +kernel, by decide +kernel⟩
theorem ok_law (F : Fun K "law" "law" s_law f fd) (m_range : mg "range" = none) (m_len : mg "len" = none) (c_history : Def P w K mg base "history" 6 3 F_history) (c__law_are_stands : Def P w K mg base "_law_are_stands" 1 2 F_l_are_stands) (c__law_too_long : Def P w K mg base "_law_too_long" 7 3 F_l_too_long) (c__law_digit : Def P w K mg base "_law_digit" 1 2 F_l_digit) (c__law_refused : Def P w K mg base "_law_refused" 7 4 F_l_refused) (c__law_none : Def P w K mg base "_law_none" 1 3 F_l_none) (c__law_wide : Def P w K mg base "_law_wide" 1 2 F_l_wide) (c__law_turn : Def P w K mg base "_law_turn" 1 2 F_l_turn) (c__law_turns : Def P w K mg base "_law_turns" 2 2 F_l_turns) (c__law_stand : Def P w K mg base "_law_stand" 2 2 F_l_stand) (c__law_web : Def P w K mg base "_law_web" 3 1 F_l_web) : FnOk P w K mg base CX0 8 f fd ["_law_script"] (spF K F_law 1) := by
  refine fn_mk F sc_law fun cdv A outer s H E hr => ?_
  have hu := hu24 hr
  exact (mss_cons (ms_asg (me_call c__law_web (hr.mono (by decide)) rfl (ma_cons (mv 0) ma_nil) mkFn_np) (mg_tup rfl (mgs_cons (mg_name (i := 1) sc_law.nd rfl (by first | exact .inl rfl | exact .inr rfl)) (mgs_cons (mg_name (i := 2) sc_law.nd rfl (by first | exact .inl rfl | exact .inr rfl)) (mgs_cons (mg_name (i := 3) sc_law.nd rfl (by first | exact .inl rfl | exact .inr rfl)) mgs_nil)))))
    (mss_cons (ms_set (i := 4) sc_law.nd rfl (by first | exact .inl rfl | exact .inr rfl) (me_call c__law_stand (hr.mono (by decide)) rfl (ma_cons (mv 1) (ma_cons (mv 2) ma_nil)) mkFn_np))
    (mss_cons (ms_set (i := 5) sc_law.nd rfl (by first | exact .inl rfl | exact .inr rfl) (me_call c__law_turns (hr.mono (by decide)) rfl (ma_cons (mv 3) (ma_cons (me_len rfl m_len (mq_of (mv 4))) ma_nil)) mkFn_np))
    (mss_cons (ms_set (i := 6) sc_law.nd rfl (by first | exact .inl rfl | exact .inr rfl) (me_new (mf_lst (ma_cons (mv 4) ma_nil) (fun _ _ _ _ z => by rw [(aCons_len aNil_len) _ _ _ _ z]; decide))))
    (mss_cons (ms_for PassesOwn.never rfl (mi_range rfl m_range (mv 5)) (mg_name (i := 7) sc_law.nd rfl (by first | exact .inl rfl | exact .inr rfl)) (mss_one (ms_expr (me_app (mv 6) (me_call c__law_turn (hr.mono (by decide)) rfl (ma_cons (mv 1) (ma_cons (me_at (mv 6) me_negC (fun _ _ => rfl)) ma_nil)) mkFn_np)))))
    (mss_cons (ms_set (i := 8) sc_law.nd rfl (by first | exact .inl rfl | exact .inr rfl) (me_call c_history (hr.mono (by decide)) rfl (ma_cons (mv 1) (ma_cons (mv 4) (ma_cons (mv 5) ma_nil))) mkFn_np))
    (mss_cons (ms_if (mt_not (mt_val (me_call c__law_are_stands (hr.mono (by decide)) rfl (ma_cons (mv 8) (ma_cons (mv 6) ma_nil)) mkFn_np))) (mss_one (ms_ret me_bl)) mss_nil)
    (mss_cons (ms_expr (me_clear (mv 8)))
    (mss_cons (ms_for PassesOwn.never rfl (mi_range rfl m_range me_int) (mg_name (i := 9) sc_law.nd rfl (by first | exact .inl rfl | exact .inr rfl)) (mss_one (ms_if (mt_not (mt_val (me_call c__law_refused (hr.mono (by decide)) rfl (ma_cons (mv 1) (ma_cons (mv 4) (ma_cons (me_call c__law_none (hr.mono (by decide)) rfl (ma_cons (mv 1) (ma_cons (mv 4) (ma_cons (me_call c__law_wide (hr.mono (by decide)) rfl (ma_cons (mv 0) (ma_cons (me_op op_add2 og_add me_int (mv 9)) ma_nil)) mkFn_np) ma_nil))) mkFn_np) (ma_cons (mv 9) ma_nil)))) mkFn_np))) (mss_one (ms_ret me_bl)) mss_nil)))
    (mss_cons (ms_if (mt_not (mt_val (me_call c__law_too_long (hr.mono (by decide)) rfl (ma_cons (mv 1) (ma_cons (mv 4) (ma_cons (me_ix (mf_lst (ma_cons me_int (ma_cons (me_op op_add2 og_add me_int (me_call c__law_digit (hr.mono (by decide)) rfl (ma_cons (mv 3) (ma_cons (me_op op_pow og_pow me_int me_int) ma_nil)) mkFn_np)) ma_nil)) (fun _ _ _ _ z => by rw [(aCons_len (aCons_len aNil_len)) _ _ _ _ z]; decide)) (me_call c__law_digit (hr.mono (by decide)) rfl (ma_cons (mv 3) (ma_cons me_int ma_nil)) mkFn_np) (fun _ _ => rfl)) ma_nil))) mkFn_np))) (mss_one (ms_ret me_bl)) mss_nil)
    (mss_one (ms_ret (MB.me (mb_and (mb_of (me_call c__law_are_stands (hr.mono (by decide)) rfl (ma_cons (me_call c_history (hr.mono (by decide)) rfl (ma_cons (mv 1) (ma_cons (mv 4) (ma_cons (mv 5) ma_nil))) mkFn_np) (ma_cons (mv 6) ma_nil)) mkFn_np)) (mb_one (mb_of (me_cmp (op_eqG hu) og_eq (me_call c_history (hr.mono (by decide)) rfl (ma_cons (mv 1) (ma_cons (mv 4) (ma_cons me_int ma_nil))) mkFn_np) (me_new (mf_lst (ma_cons (mv 4) ma_nil) (fun _ _ _ _ z => by rw [(aCons_len aNil_len) _ _ _ _ z]; decide))) (nomark _))))))))))))))))))
end
theorem args1_of {α : Type} (us : List α) (hl : us.length = 1) : ∃ x0, us = [x0] := match us, hl with | [x0], _ => ⟨x0, rfl⟩
theorem args2_of {α : Type} (us : List α) (hl : us.length = 2) : ∃ x0 x1, us = [x0, x1] := match us, hl with | [x0, x1], _ => ⟨x0, x1, rfl⟩
theorem args3_of {α : Type} (us : List α) (hl : us.length = 3) : ∃ x0 x1 x2, us = [x0, x1, x2] := match us, hl with | [x0, x1, x2], _ => ⟨x0, x1, x2, rfl⟩
theorem args4_of {α : Type} (us : List α) (hl : us.length = 4) : ∃ x0 x1 x2 x3, us = [x0, x1, x2, x3] := match us, hl with | [x0, x1, x2, x3], _ => ⟨x0, x1, x2, x3, rfl⟩
theorem all_mk {l : PySem.W.OpenLaw} {w : World} {K : PySem.W.Frag} {h : Heap} {mg : Str → Option Value} {fa f_is_whole f_is_between f_is_opinion f_many_of f_ties_of f_bar_of f_stay_of f_fits f_check_stand f_pull_at f_next_at f_turn_at f_history f_ended f_sum_at f_sums f__law_wide f__law_cell f__law_digit f__law_weight f__law_bar f__law_web f__law_stand f__law_turn f__law_turns f__law_are_stands f__law_none f__law_too_long f__law_refused f_law C_MostError C_NoStand C_NoOrder C_NoPeople C_NoRest C_NoRow C_NoText C_NoWeb C_TooLong C_TooMuch : Addr} (X : K.In h) (G : h.Ns mainGlobals mg) (hfa : mg "law" = some (.ref fa))
    {od_is_whole an_is_whole : Option Addr} {sl_is_whole : Array (Option Value)} {oc_is_whole kV_is_whole dc_is_whole pm_is_whole cd_is_whole ct_is_whole : Value}
    (a_is_whole : PySem.W.nsIn K mainGlobals "is_whole" = some (some (.ref f_is_whole))) (l_is_whole : K.lookup f_is_whole = some ⟨oc_is_whole, od_is_whole, .func (PySem.W.fnOf "is_whole" "is_whole" (defArgs s_is_whole) (defBody s_is_whole) (defScope s_is_whole) .none kV_is_whole dc_is_whole pm_is_whole an_is_whole cd_is_whole ct_is_whole), sl_is_whole⟩) (c_is_whole : PySem.W.codeIn K cd_is_whole "is_whole" = true) (k_is_whole : PySem.W.keepIn K (.ref f_is_whole) = true)
    {od_is_between an_is_between : Option Addr} {sl_is_between : Array (Option Value)} {oc_is_between kV_is_between dc_is_between pm_is_between cd_is_between ct_is_between : Value}
    (a_is_between : PySem.W.nsIn K mainGlobals "is_between" = some (some (.ref f_is_between))) (l_is_between : K.lookup f_is_between = some ⟨oc_is_between, od_is_between, .func (PySem.W.fnOf "is_between" "is_between" (defArgs s_is_between) (defBody s_is_between) (defScope s_is_between) .none kV_is_between dc_is_between pm_is_between an_is_between cd_is_between ct_is_between), sl_is_between⟩) (c_is_between : PySem.W.codeIn K cd_is_between "is_between" = true) (k_is_between : PySem.W.keepIn K (.ref f_is_between) = true)
    {od_is_opinion an_is_opinion : Option Addr} {sl_is_opinion : Array (Option Value)} {oc_is_opinion kV_is_opinion dc_is_opinion pm_is_opinion cd_is_opinion ct_is_opinion : Value}
    (a_is_opinion : PySem.W.nsIn K mainGlobals "is_opinion" = some (some (.ref f_is_opinion))) (l_is_opinion : K.lookup f_is_opinion = some ⟨oc_is_opinion, od_is_opinion, .func (PySem.W.fnOf "is_opinion" "is_opinion" (defArgs s_is_opinion) (defBody s_is_opinion) (defScope s_is_opinion) .none kV_is_opinion dc_is_opinion pm_is_opinion an_is_opinion cd_is_opinion ct_is_opinion), sl_is_opinion⟩) (c_is_opinion : PySem.W.codeIn K cd_is_opinion "is_opinion" = true) (k_is_opinion : PySem.W.keepIn K (.ref f_is_opinion) = true)
    {od_many_of an_many_of : Option Addr} {sl_many_of : Array (Option Value)} {oc_many_of kV_many_of dc_many_of pm_many_of cd_many_of ct_many_of : Value}
    (a_many_of : PySem.W.nsIn K mainGlobals "many_of" = some (some (.ref f_many_of))) (l_many_of : K.lookup f_many_of = some ⟨oc_many_of, od_many_of, .func (PySem.W.fnOf "many_of" "many_of" (defArgs s_many_of) (defBody s_many_of) (defScope s_many_of) .none kV_many_of dc_many_of pm_many_of an_many_of cd_many_of ct_many_of), sl_many_of⟩) (c_many_of : PySem.W.codeIn K cd_many_of "many_of" = true) (k_many_of : PySem.W.keepIn K (.ref f_many_of) = true)
    {od_ties_of an_ties_of : Option Addr} {sl_ties_of : Array (Option Value)} {oc_ties_of kV_ties_of dc_ties_of pm_ties_of cd_ties_of ct_ties_of : Value}
    (a_ties_of : PySem.W.nsIn K mainGlobals "ties_of" = some (some (.ref f_ties_of))) (l_ties_of : K.lookup f_ties_of = some ⟨oc_ties_of, od_ties_of, .func (PySem.W.fnOf "ties_of" "ties_of" (defArgs s_ties_of) (defBody s_ties_of) (defScope s_ties_of) .none kV_ties_of dc_ties_of pm_ties_of an_ties_of cd_ties_of ct_ties_of), sl_ties_of⟩) (c_ties_of : PySem.W.codeIn K cd_ties_of "ties_of" = true) (k_ties_of : PySem.W.keepIn K (.ref f_ties_of) = true)
    {od_bar_of an_bar_of : Option Addr} {sl_bar_of : Array (Option Value)} {oc_bar_of kV_bar_of dc_bar_of pm_bar_of cd_bar_of ct_bar_of : Value}
    (a_bar_of : PySem.W.nsIn K mainGlobals "bar_of" = some (some (.ref f_bar_of))) (l_bar_of : K.lookup f_bar_of = some ⟨oc_bar_of, od_bar_of, .func (PySem.W.fnOf "bar_of" "bar_of" (defArgs s_bar_of) (defBody s_bar_of) (defScope s_bar_of) .none kV_bar_of dc_bar_of pm_bar_of an_bar_of cd_bar_of ct_bar_of), sl_bar_of⟩) (c_bar_of : PySem.W.codeIn K cd_bar_of "bar_of" = true) (k_bar_of : PySem.W.keepIn K (.ref f_bar_of) = true)
    {od_stay_of an_stay_of : Option Addr} {sl_stay_of : Array (Option Value)} {oc_stay_of kV_stay_of dc_stay_of pm_stay_of cd_stay_of ct_stay_of : Value}
    (a_stay_of : PySem.W.nsIn K mainGlobals "stay_of" = some (some (.ref f_stay_of))) (l_stay_of : K.lookup f_stay_of = some ⟨oc_stay_of, od_stay_of, .func (PySem.W.fnOf "stay_of" "stay_of" (defArgs s_stay_of) (defBody s_stay_of) (defScope s_stay_of) .none kV_stay_of dc_stay_of pm_stay_of an_stay_of cd_stay_of ct_stay_of), sl_stay_of⟩) (c_stay_of : PySem.W.codeIn K cd_stay_of "stay_of" = true) (k_stay_of : PySem.W.keepIn K (.ref f_stay_of) = true)
    {od_fits an_fits : Option Addr} {sl_fits : Array (Option Value)} {oc_fits kV_fits dc_fits pm_fits cd_fits ct_fits : Value}
    (a_fits : PySem.W.nsIn K mainGlobals "fits" = some (some (.ref f_fits))) (l_fits : K.lookup f_fits = some ⟨oc_fits, od_fits, .func (PySem.W.fnOf "fits" "fits" (defArgs s_fits) (defBody s_fits) (defScope s_fits) .none kV_fits dc_fits pm_fits an_fits cd_fits ct_fits), sl_fits⟩) (c_fits : PySem.W.codeIn K cd_fits "fits" = true) (k_fits : PySem.W.keepIn K (.ref f_fits) = true)
    {od_check_stand an_check_stand : Option Addr} {sl_check_stand : Array (Option Value)} {oc_check_stand kV_check_stand dc_check_stand pm_check_stand cd_check_stand ct_check_stand : Value}
    (a_check_stand : PySem.W.nsIn K mainGlobals "check_stand" = some (some (.ref f_check_stand))) (l_check_stand : K.lookup f_check_stand = some ⟨oc_check_stand, od_check_stand, .func (PySem.W.fnOf "check_stand" "check_stand" (defArgs s_check_stand) (defBody s_check_stand) (defScope s_check_stand) .none kV_check_stand dc_check_stand pm_check_stand an_check_stand cd_check_stand ct_check_stand), sl_check_stand⟩) (c_check_stand : PySem.W.codeIn K cd_check_stand "check_stand" = true) (k_check_stand : PySem.W.keepIn K (.ref f_check_stand) = true)
    {od_pull_at an_pull_at : Option Addr} {sl_pull_at : Array (Option Value)} {oc_pull_at kV_pull_at dc_pull_at pm_pull_at cd_pull_at ct_pull_at : Value}
    (a_pull_at : PySem.W.nsIn K mainGlobals "pull_at" = some (some (.ref f_pull_at))) (l_pull_at : K.lookup f_pull_at = some ⟨oc_pull_at, od_pull_at, .func (PySem.W.fnOf "pull_at" "pull_at" (defArgs s_pull_at) (defBody s_pull_at) (defScope s_pull_at) .none kV_pull_at dc_pull_at pm_pull_at an_pull_at cd_pull_at ct_pull_at), sl_pull_at⟩) (c_pull_at : PySem.W.codeIn K cd_pull_at "pull_at" = true) (k_pull_at : PySem.W.keepIn K (.ref f_pull_at) = true)
    {od_next_at an_next_at : Option Addr} {sl_next_at : Array (Option Value)} {oc_next_at kV_next_at dc_next_at pm_next_at cd_next_at ct_next_at : Value}
    (a_next_at : PySem.W.nsIn K mainGlobals "next_at" = some (some (.ref f_next_at))) (l_next_at : K.lookup f_next_at = some ⟨oc_next_at, od_next_at, .func (PySem.W.fnOf "next_at" "next_at" (defArgs s_next_at) (defBody s_next_at) (defScope s_next_at) .none kV_next_at dc_next_at pm_next_at an_next_at cd_next_at ct_next_at), sl_next_at⟩) (c_next_at : PySem.W.codeIn K cd_next_at "next_at" = true) (k_next_at : PySem.W.keepIn K (.ref f_next_at) = true)
    {od_turn_at an_turn_at : Option Addr} {sl_turn_at : Array (Option Value)} {oc_turn_at kV_turn_at dc_turn_at pm_turn_at cd_turn_at ct_turn_at : Value}
    (a_turn_at : PySem.W.nsIn K mainGlobals "turn_at" = some (some (.ref f_turn_at))) (l_turn_at : K.lookup f_turn_at = some ⟨oc_turn_at, od_turn_at, .func (PySem.W.fnOf "turn_at" "turn_at" (defArgs s_turn_at) (defBody s_turn_at) (defScope s_turn_at) .none kV_turn_at dc_turn_at pm_turn_at an_turn_at cd_turn_at ct_turn_at), sl_turn_at⟩) (c_turn_at : PySem.W.codeIn K cd_turn_at "turn_at" = true) (k_turn_at : PySem.W.keepIn K (.ref f_turn_at) = true)
    {od_history an_history : Option Addr} {sl_history : Array (Option Value)} {oc_history kV_history dc_history pm_history cd_history ct_history : Value}
    (a_history : PySem.W.nsIn K mainGlobals "history" = some (some (.ref f_history))) (l_history : K.lookup f_history = some ⟨oc_history, od_history, .func (PySem.W.fnOf "history" "history" (defArgs s_history) (defBody s_history) (defScope s_history) .none kV_history dc_history pm_history an_history cd_history ct_history), sl_history⟩) (c_history : PySem.W.codeIn K cd_history "history" = true) (k_history : PySem.W.keepIn K (.ref f_history) = true)
    {od_ended an_ended : Option Addr} {sl_ended : Array (Option Value)} {oc_ended kV_ended dc_ended pm_ended cd_ended ct_ended : Value}
    (a_ended : PySem.W.nsIn K mainGlobals "ended" = some (some (.ref f_ended))) (l_ended : K.lookup f_ended = some ⟨oc_ended, od_ended, .func (PySem.W.fnOf "ended" "ended" (defArgs s_ended) (defBody s_ended) (defScope s_ended) .none kV_ended dc_ended pm_ended an_ended cd_ended ct_ended), sl_ended⟩) (c_ended : PySem.W.codeIn K cd_ended "ended" = true) (k_ended : PySem.W.keepIn K (.ref f_ended) = true)
    {od_sum_at an_sum_at : Option Addr} {sl_sum_at : Array (Option Value)} {oc_sum_at kV_sum_at dc_sum_at pm_sum_at cd_sum_at ct_sum_at : Value}
    (a_sum_at : PySem.W.nsIn K mainGlobals "sum_at" = some (some (.ref f_sum_at))) (l_sum_at : K.lookup f_sum_at = some ⟨oc_sum_at, od_sum_at, .func (PySem.W.fnOf "sum_at" "sum_at" (defArgs s_sum_at) (defBody s_sum_at) (defScope s_sum_at) .none kV_sum_at dc_sum_at pm_sum_at an_sum_at cd_sum_at ct_sum_at), sl_sum_at⟩) (c_sum_at : PySem.W.codeIn K cd_sum_at "sum_at" = true) (k_sum_at : PySem.W.keepIn K (.ref f_sum_at) = true)
    {od_sums an_sums : Option Addr} {sl_sums : Array (Option Value)} {oc_sums kV_sums dc_sums pm_sums cd_sums ct_sums : Value}
    (a_sums : PySem.W.nsIn K mainGlobals "sums" = some (some (.ref f_sums))) (l_sums : K.lookup f_sums = some ⟨oc_sums, od_sums, .func (PySem.W.fnOf "sums" "sums" (defArgs s_sums) (defBody s_sums) (defScope s_sums) .none kV_sums dc_sums pm_sums an_sums cd_sums ct_sums), sl_sums⟩) (c_sums : PySem.W.codeIn K cd_sums "sums" = true) (k_sums : PySem.W.keepIn K (.ref f_sums) = true)
    {od__law_wide an__law_wide : Option Addr} {sl__law_wide : Array (Option Value)} {oc__law_wide kV__law_wide dc__law_wide pm__law_wide cd__law_wide ct__law_wide : Value}
    (a__law_wide : PySem.W.nsIn K mainGlobals "_law_wide" = some (some (.ref f__law_wide))) (l__law_wide : K.lookup f__law_wide = some ⟨oc__law_wide, od__law_wide, .func (PySem.W.fnOf "_law_wide" "_law_wide" (defArgs s__law_wide) (defBody s__law_wide) (defScope s__law_wide) .none kV__law_wide dc__law_wide pm__law_wide an__law_wide cd__law_wide ct__law_wide), sl__law_wide⟩) (c__law_wide : PySem.W.codeIn K cd__law_wide "_law_wide" = true) (k__law_wide : PySem.W.keepIn K (.ref f__law_wide) = true)
    {od__law_cell an__law_cell : Option Addr} {sl__law_cell : Array (Option Value)} {oc__law_cell kV__law_cell dc__law_cell pm__law_cell cd__law_cell ct__law_cell : Value}
    (a__law_cell : PySem.W.nsIn K mainGlobals "_law_cell" = some (some (.ref f__law_cell))) (l__law_cell : K.lookup f__law_cell = some ⟨oc__law_cell, od__law_cell, .func (PySem.W.fnOf "_law_cell" "_law_cell" (defArgs s__law_cell) (defBody s__law_cell) (defScope s__law_cell) .none kV__law_cell dc__law_cell pm__law_cell an__law_cell cd__law_cell ct__law_cell), sl__law_cell⟩) (c__law_cell : PySem.W.codeIn K cd__law_cell "_law_cell" = true) (k__law_cell : PySem.W.keepIn K (.ref f__law_cell) = true)
    {od__law_digit an__law_digit : Option Addr} {sl__law_digit : Array (Option Value)} {oc__law_digit kV__law_digit dc__law_digit pm__law_digit cd__law_digit ct__law_digit : Value}
    (a__law_digit : PySem.W.nsIn K mainGlobals "_law_digit" = some (some (.ref f__law_digit))) (l__law_digit : K.lookup f__law_digit = some ⟨oc__law_digit, od__law_digit, .func (PySem.W.fnOf "_law_digit" "_law_digit" (defArgs s__law_digit) (defBody s__law_digit) (defScope s__law_digit) .none kV__law_digit dc__law_digit pm__law_digit an__law_digit cd__law_digit ct__law_digit), sl__law_digit⟩) (c__law_digit : PySem.W.codeIn K cd__law_digit "_law_digit" = true) (k__law_digit : PySem.W.keepIn K (.ref f__law_digit) = true)
    {od__law_weight an__law_weight : Option Addr} {sl__law_weight : Array (Option Value)} {oc__law_weight kV__law_weight dc__law_weight pm__law_weight cd__law_weight ct__law_weight : Value}
    (a__law_weight : PySem.W.nsIn K mainGlobals "_law_weight" = some (some (.ref f__law_weight))) (l__law_weight : K.lookup f__law_weight = some ⟨oc__law_weight, od__law_weight, .func (PySem.W.fnOf "_law_weight" "_law_weight" (defArgs s__law_weight) (defBody s__law_weight) (defScope s__law_weight) .none kV__law_weight dc__law_weight pm__law_weight an__law_weight cd__law_weight ct__law_weight), sl__law_weight⟩) (c__law_weight : PySem.W.codeIn K cd__law_weight "_law_weight" = true) (k__law_weight : PySem.W.keepIn K (.ref f__law_weight) = true)
    {od__law_bar an__law_bar : Option Addr} {sl__law_bar : Array (Option Value)} {oc__law_bar kV__law_bar dc__law_bar pm__law_bar cd__law_bar ct__law_bar : Value}
    (a__law_bar : PySem.W.nsIn K mainGlobals "_law_bar" = some (some (.ref f__law_bar))) (l__law_bar : K.lookup f__law_bar = some ⟨oc__law_bar, od__law_bar, .func (PySem.W.fnOf "_law_bar" "_law_bar" (defArgs s__law_bar) (defBody s__law_bar) (defScope s__law_bar) .none kV__law_bar dc__law_bar pm__law_bar an__law_bar cd__law_bar ct__law_bar), sl__law_bar⟩) (c__law_bar : PySem.W.codeIn K cd__law_bar "_law_bar" = true) (k__law_bar : PySem.W.keepIn K (.ref f__law_bar) = true)
    {od__law_web an__law_web : Option Addr} {sl__law_web : Array (Option Value)} {oc__law_web kV__law_web dc__law_web pm__law_web cd__law_web ct__law_web : Value}
    (a__law_web : PySem.W.nsIn K mainGlobals "_law_web" = some (some (.ref f__law_web))) (l__law_web : K.lookup f__law_web = some ⟨oc__law_web, od__law_web, .func (PySem.W.fnOf "_law_web" "_law_web" (defArgs s__law_web) (defBody s__law_web) (defScope s__law_web) .none kV__law_web dc__law_web pm__law_web an__law_web cd__law_web ct__law_web), sl__law_web⟩) (c__law_web : PySem.W.codeIn K cd__law_web "_law_web" = true) (k__law_web : PySem.W.keepIn K (.ref f__law_web) = true)
    {od__law_stand an__law_stand : Option Addr} {sl__law_stand : Array (Option Value)} {oc__law_stand kV__law_stand dc__law_stand pm__law_stand cd__law_stand ct__law_stand : Value}
    (a__law_stand : PySem.W.nsIn K mainGlobals "_law_stand" = some (some (.ref f__law_stand))) (l__law_stand : K.lookup f__law_stand = some ⟨oc__law_stand, od__law_stand, .func (PySem.W.fnOf "_law_stand" "_law_stand" (defArgs s__law_stand) (defBody s__law_stand) (defScope s__law_stand) .none kV__law_stand dc__law_stand pm__law_stand an__law_stand cd__law_stand ct__law_stand), sl__law_stand⟩) (c__law_stand : PySem.W.codeIn K cd__law_stand "_law_stand" = true) (k__law_stand : PySem.W.keepIn K (.ref f__law_stand) = true)
    {od__law_turn an__law_turn : Option Addr} {sl__law_turn : Array (Option Value)} {oc__law_turn kV__law_turn dc__law_turn pm__law_turn cd__law_turn ct__law_turn : Value}
    (a__law_turn : PySem.W.nsIn K mainGlobals "_law_turn" = some (some (.ref f__law_turn))) (l__law_turn : K.lookup f__law_turn = some ⟨oc__law_turn, od__law_turn, .func (PySem.W.fnOf "_law_turn" "_law_turn" (defArgs s__law_turn) (defBody s__law_turn) (defScope s__law_turn) .none kV__law_turn dc__law_turn pm__law_turn an__law_turn cd__law_turn ct__law_turn), sl__law_turn⟩) (c__law_turn : PySem.W.codeIn K cd__law_turn "_law_turn" = true) (k__law_turn : PySem.W.keepIn K (.ref f__law_turn) = true)
    {od__law_turns an__law_turns : Option Addr} {sl__law_turns : Array (Option Value)} {oc__law_turns kV__law_turns dc__law_turns pm__law_turns cd__law_turns ct__law_turns : Value}
    (a__law_turns : PySem.W.nsIn K mainGlobals "_law_turns" = some (some (.ref f__law_turns))) (l__law_turns : K.lookup f__law_turns = some ⟨oc__law_turns, od__law_turns, .func (PySem.W.fnOf "_law_turns" "_law_turns" (defArgs s__law_turns) (defBody s__law_turns) (defScope s__law_turns) .none kV__law_turns dc__law_turns pm__law_turns an__law_turns cd__law_turns ct__law_turns), sl__law_turns⟩) (c__law_turns : PySem.W.codeIn K cd__law_turns "_law_turns" = true) (k__law_turns : PySem.W.keepIn K (.ref f__law_turns) = true)
    {od__law_are_stands an__law_are_stands : Option Addr} {sl__law_are_stands : Array (Option Value)} {oc__law_are_stands kV__law_are_stands dc__law_are_stands pm__law_are_stands cd__law_are_stands ct__law_are_stands : Value}
    (a__law_are_stands : PySem.W.nsIn K mainGlobals "_law_are_stands" = some (some (.ref f__law_are_stands))) (l__law_are_stands : K.lookup f__law_are_stands = some ⟨oc__law_are_stands, od__law_are_stands, .func (PySem.W.fnOf "_law_are_stands" "_law_are_stands" (defArgs s__law_are_stands) (defBody s__law_are_stands) (defScope s__law_are_stands) .none kV__law_are_stands dc__law_are_stands pm__law_are_stands an__law_are_stands cd__law_are_stands ct__law_are_stands), sl__law_are_stands⟩) (c__law_are_stands : PySem.W.codeIn K cd__law_are_stands "_law_are_stands" = true) (k__law_are_stands : PySem.W.keepIn K (.ref f__law_are_stands) = true)
    {od__law_none an__law_none : Option Addr} {sl__law_none : Array (Option Value)} {oc__law_none kV__law_none dc__law_none pm__law_none cd__law_none ct__law_none : Value}
    (a__law_none : PySem.W.nsIn K mainGlobals "_law_none" = some (some (.ref f__law_none))) (l__law_none : K.lookup f__law_none = some ⟨oc__law_none, od__law_none, .func (PySem.W.fnOf "_law_none" "_law_none" (defArgs s__law_none) (defBody s__law_none) (defScope s__law_none) .none kV__law_none dc__law_none pm__law_none an__law_none cd__law_none ct__law_none), sl__law_none⟩) (c__law_none : PySem.W.codeIn K cd__law_none "_law_none" = true) (k__law_none : PySem.W.keepIn K (.ref f__law_none) = true)
    {od__law_too_long an__law_too_long : Option Addr} {sl__law_too_long : Array (Option Value)} {oc__law_too_long kV__law_too_long dc__law_too_long pm__law_too_long cd__law_too_long ct__law_too_long : Value}
    (a__law_too_long : PySem.W.nsIn K mainGlobals "_law_too_long" = some (some (.ref f__law_too_long))) (l__law_too_long : K.lookup f__law_too_long = some ⟨oc__law_too_long, od__law_too_long, .func (PySem.W.fnOf "_law_too_long" "_law_too_long" (defArgs s__law_too_long) (defBody s__law_too_long) (defScope s__law_too_long) .none kV__law_too_long dc__law_too_long pm__law_too_long an__law_too_long cd__law_too_long ct__law_too_long), sl__law_too_long⟩) (c__law_too_long : PySem.W.codeIn K cd__law_too_long "_law_too_long" = true) (k__law_too_long : PySem.W.keepIn K (.ref f__law_too_long) = true)
    {od__law_refused an__law_refused : Option Addr} {sl__law_refused : Array (Option Value)} {oc__law_refused kV__law_refused dc__law_refused pm__law_refused cd__law_refused ct__law_refused : Value}
    (a__law_refused : PySem.W.nsIn K mainGlobals "_law_refused" = some (some (.ref f__law_refused))) (l__law_refused : K.lookup f__law_refused = some ⟨oc__law_refused, od__law_refused, .func (PySem.W.fnOf "_law_refused" "_law_refused" (defArgs s__law_refused) (defBody s__law_refused) (defScope s__law_refused) .none kV__law_refused dc__law_refused pm__law_refused an__law_refused cd__law_refused ct__law_refused), sl__law_refused⟩) (c__law_refused : PySem.W.codeIn K cd__law_refused "_law_refused" = true) (k__law_refused : PySem.W.keepIn K (.ref f__law_refused) = true)
    {od_law an_law : Option Addr} {sl_law : Array (Option Value)} {oc_law kV_law dc_law pm_law cd_law ct_law : Value}
    (a_law : PySem.W.nsIn K mainGlobals "law" = some (some (.ref f_law))) (l_law : K.lookup f_law = some ⟨oc_law, od_law, .func (PySem.W.fnOf "law" "law" (defArgs s_law) (defBody s_law) (defScope s_law) .none kV_law dc_law pm_law an_law cd_law ct_law), sl_law⟩) (c_law : PySem.W.codeIn K cd_law "law" = true) (k_law : PySem.W.keepIn K (.ref f_law) = true)
    (z_isinstance : PySem.W.nsIn K mainGlobals "isinstance" = some none)
    (z_bool : PySem.W.nsIn K mainGlobals "bool" = some none)
    (z_int : PySem.W.nsIn K mainGlobals "int" = some none)
    (z_len : PySem.W.nsIn K mainGlobals "len" = some none)
    (z_enumerate : PySem.W.nsIn K mainGlobals "enumerate" = some none)
    (z_tuple : PySem.W.nsIn K mainGlobals "tuple" = some none)
    (z_sum : PySem.W.nsIn K mainGlobals "sum" = some none)
    (z_range : PySem.W.nsIn K mainGlobals "range" = some none)
    (z_sorted : PySem.W.nsIn K mainGlobals "sorted" = some none)
    (z_list : PySem.W.nsIn K mainGlobals "list" = some none)
    (z_ValueError : PySem.W.nsIn K mainGlobals "ValueError" = some none)
    {t_MOST_TURNS : Tok} (z_MOST_TURNS : PySem.W.nsIn K mainGlobals "MOST_TURNS" = some (some (.int 400 t_MOST_TURNS)))
    {cd_M cd_A_TooLong cd_A_NoStand : ClassData}
    (y_MostError : PySem.W.nsIn K mainGlobals "MostError" = some (some (.ref C_MostError)))
    (y_NoStand : PySem.W.nsIn K mainGlobals "NoStand" = some (some (.ref C_NoStand)))
    (y_NoOrder : PySem.W.nsIn K mainGlobals "NoOrder" = some (some (.ref C_NoOrder)))
    (y_NoPeople : PySem.W.nsIn K mainGlobals "NoPeople" = some (some (.ref C_NoPeople)))
    (y_NoRest : PySem.W.nsIn K mainGlobals "NoRest" = some (some (.ref C_NoRest)))
    (y_NoRow : PySem.W.nsIn K mainGlobals "NoRow" = some (some (.ref C_NoRow)))
    (y_NoText : PySem.W.nsIn K mainGlobals "NoText" = some (some (.ref C_NoText)))
    (y_NoWeb : PySem.W.nsIn K mainGlobals "NoWeb" = some (some (.ref C_NoWeb)))
    (y_TooLong : PySem.W.nsIn K mainGlobals "TooLong" = some (some (.ref C_TooLong)))
    (y_TooMuch : PySem.W.nsIn K mainGlobals "TooMuch" = some (some (.ref C_TooMuch)))
    (w_own_TooLong : PySem.W.excIn K C_TooLong [.type "ValueError", .type "Exception", .type "BaseException", .type "object"] "ValueError.__new__" = true)
    (w_be : PySem.W.subIn K (.ref C_MostError) (.type "BaseException") = some true)
    (w_is : PySem.W.clsIn K C_MostError = some cd_M)
    (w_ty : PySem.W.typeIn K (.ref C_MostError) = some (.type "type"))
    (w_sub_TooLong : PySem.W.subIn K (.ref C_TooLong) (.ref C_MostError) = some true)
    (w_z1_TooLong : PySem.W.findIn K (.ref C_TooLong) "__getattribute__" = some (some (.builtin "BaseException.__getattribute__")))
    (w_z2_TooLong : PySem.W.findIn K (.ref C_TooLong) "__getattr__" = some none)
    (w_z3_TooLong : PySem.W.findIn K (.ref C_TooLong) "__class__" = some (some (.builtin "object.__class__")))
    (w_z4_TooLong : PySem.W.subIn K (.ref C_TooLong) (.type "BaseException") = some true)
    (w_z5_TooLong : PySem.W.mroIn K C_TooLong (.type "object") = some true)
    (w_z6_TooLong : PySem.W.clsIn K C_TooLong = some cd_A_TooLong)
    (w_k8_TooLong : PySem.W.kitAny K (.ref C_TooLong) [.ref C_NoOrder, .ref C_NoPeople, .ref C_NoRest, .ref C_NoRow, .ref C_NoStand, .ref C_NoText, .ref C_NoWeb, .ref C_TooMuch] = some false)
    (w_kA_TooLong : PySem.W.kitOne K (.ref C_TooLong) (.ref C_TooLong) = some true)
    (w_kV_TooLong : PySem.W.kitOne K (.ref C_TooLong) (.type "ValueError") = some true)
    (w_own_NoStand : PySem.W.excIn K C_NoStand [.type "ValueError", .type "Exception", .type "BaseException", .type "object"] "ValueError.__new__" = true)
    (w_sub_NoStand : PySem.W.subIn K (.ref C_NoStand) (.ref C_MostError) = some true)
    (w_z1_NoStand : PySem.W.findIn K (.ref C_NoStand) "__getattribute__" = some (some (.builtin "BaseException.__getattribute__")))
    (w_z2_NoStand : PySem.W.findIn K (.ref C_NoStand) "__getattr__" = some none)
    (w_z3_NoStand : PySem.W.findIn K (.ref C_NoStand) "__class__" = some (some (.builtin "object.__class__")))
    (w_z4_NoStand : PySem.W.subIn K (.ref C_NoStand) (.type "BaseException") = some true)
    (w_z5_NoStand : PySem.W.mroIn K C_NoStand (.type "object") = some true)
    (w_z6_NoStand : PySem.W.clsIn K C_NoStand = some cd_A_NoStand)
    (w_k8_NoStand : PySem.W.kitAny K (.ref C_NoStand) [.ref C_NoOrder, .ref C_NoPeople, .ref C_NoRest, .ref C_NoRow, .ref C_NoText, .ref C_NoWeb, .ref C_TooLong, .ref C_TooMuch] = some false)
    (w_kA_NoStand : PySem.W.kitOne K (.ref C_NoStand) (.ref C_NoStand) = some true)
    (w_kV_NoStand : PySem.W.kitOne K (.ref C_NoStand) (.type "ValueError") = some true)
    : ∃ fd : FuncData, (∀ (s : Shared) (v : Value), BindsTo s fd ⟨[v], []⟩ [("_law_script", v)]) ∧ ∀ base : Heap, K.In base → base.Ns mainGlobals mg → FnOk l.prog w K mg base CX0 8 fa fd ["_law_script"] (spF K F_law 1) := by
  have e := hfa.symm.trans (PySem.W.mg_of X G a_law)
  cases e
  have m_isinstance := PySem.W.mg_none_of X G z_isinstance
  have m_bool := PySem.W.mg_none_of X G z_bool
  have m_int := PySem.W.mg_none_of X G z_int
  have m_len := PySem.W.mg_none_of X G z_len
  have m_enumerate := PySem.W.mg_none_of X G z_enumerate
  have m_tuple := PySem.W.mg_none_of X G z_tuple
  have m_sum := PySem.W.mg_none_of X G z_sum
  have m_range := PySem.W.mg_none_of X G z_range
  have m_sorted := PySem.W.mg_none_of X G z_sorted
  have m_list := PySem.W.mg_none_of X G z_list
  have m_ValueError := PySem.W.mg_none_of X G z_ValueError
  have g_MOST_TURNS := PySem.W.mg_of X G z_MOST_TURNS
  have g_MostError := PySem.W.mg_of X G y_MostError
  have g_NoStand := PySem.W.mg_of X G y_NoStand
  have g_NoOrder := PySem.W.mg_of X G y_NoOrder
  have g_NoPeople := PySem.W.mg_of X G y_NoPeople
  have g_NoRest := PySem.W.mg_of X G y_NoRest
  have g_NoRow := PySem.W.mg_of X G y_NoRow
  have g_NoText := PySem.W.mg_of X G y_NoText
  have g_NoWeb := PySem.W.mg_of X G y_NoWeb
  have g_TooLong := PySem.W.mg_of X G y_TooLong
  have g_TooMuch := PySem.W.mg_of X G y_TooMuch
  have U_is_whole := fun_mk (st := s_is_whole) l_is_whole c_is_whole k_is_whole
  have b_is_whole := U_is_whole.binds (ps := ["thing"]) fun _ _ _ _ _ _ us hl => by obtain ⟨_, rfl⟩ := args1_of us hl; rfl
  have U_is_between := fun_mk (st := s_is_between) l_is_between c_is_between k_is_between
  have b_is_between := U_is_between.binds (ps := ["thing", "least", "most"]) fun _ _ _ _ _ _ us hl => by obtain ⟨_, _, _, rfl⟩ := args3_of us hl; rfl
  have U_is_opinion := fun_mk (st := s_is_opinion) l_is_opinion c_is_opinion k_is_opinion
  have b_is_opinion := U_is_opinion.binds (ps := ["thing"]) fun _ _ _ _ _ _ us hl => by obtain ⟨_, rfl⟩ := args1_of us hl; rfl
  have U_many_of := fun_mk (st := s_many_of) l_many_of c_many_of k_many_of
  have b_many_of := U_many_of.binds (ps := ["web"]) fun _ _ _ _ _ _ us hl => by obtain ⟨_, rfl⟩ := args1_of us hl; rfl
  have U_ties_of := fun_mk (st := s_ties_of) l_ties_of c_ties_of k_ties_of
  have b_ties_of := U_ties_of.binds (ps := ["web", "person"]) fun _ _ _ _ _ _ us hl => by obtain ⟨_, _, rfl⟩ := args2_of us hl; rfl
  have U_bar_of := fun_mk (st := s_bar_of) l_bar_of c_bar_of k_bar_of
  have b_bar_of := U_bar_of.binds (ps := ["web", "person"]) fun _ _ _ _ _ _ us hl => by obtain ⟨_, _, rfl⟩ := args2_of us hl; rfl
  have U_stay_of := fun_mk (st := s_stay_of) l_stay_of c_stay_of k_stay_of
  have b_stay_of := U_stay_of.binds (ps := ["web", "person"]) fun _ _ _ _ _ _ us hl => by obtain ⟨_, _, rfl⟩ := args2_of us hl; rfl
  have U_fits := fun_mk (st := s_fits) l_fits c_fits k_fits
  have b_fits := U_fits.binds (ps := ["web", "thing"]) fun _ _ _ _ _ _ us hl => by obtain ⟨_, _, rfl⟩ := args2_of us hl; rfl
  have U_check_stand := fun_mk (st := s_check_stand) l_check_stand c_check_stand k_check_stand
  have b_check_stand := U_check_stand.binds (ps := ["web", "thing"]) fun _ _ _ _ _ _ us hl => by obtain ⟨_, _, rfl⟩ := args2_of us hl; rfl
  have U_pull_at := fun_mk (st := s_pull_at) l_pull_at c_pull_at k_pull_at
  have b_pull_at := U_pull_at.binds (ps := ["web", "stand", "person"]) fun _ _ _ _ _ _ us hl => by obtain ⟨_, _, _, rfl⟩ := args3_of us hl; rfl
  have U_next_at := fun_mk (st := s_next_at) l_next_at c_next_at k_next_at
  have b_next_at := U_next_at.binds (ps := ["web", "stand", "person"]) fun _ _ _ _ _ _ us hl => by obtain ⟨_, _, _, rfl⟩ := args3_of us hl; rfl
  have U_turn_at := fun_mk (st := s_turn_at) l_turn_at c_turn_at k_turn_at
  have b_turn_at := U_turn_at.binds (ps := ["web", "stand"]) fun _ _ _ _ _ _ us hl => by obtain ⟨_, _, rfl⟩ := args2_of us hl; rfl
  have U_history := fun_mk (st := s_history) l_history c_history k_history
  have b_history := U_history.binds (ps := ["web", "stand", "turns"]) fun _ _ _ _ _ _ us hl => by obtain ⟨_, _, _, rfl⟩ := args3_of us hl; rfl
  have U_ended := fun_mk (st := s_ended) l_ended c_ended k_ended
  have b_ended := U_ended.binds (ps := ["web", "stand"]) fun _ _ _ _ _ _ us hl => by obtain ⟨_, _, rfl⟩ := args2_of us hl; rfl
  have U_sum_at := fun_mk (st := s_sum_at) l_sum_at c_sum_at k_sum_at
  have b_sum_at := U_sum_at.binds (ps := ["web", "first", "second"]) fun _ _ _ _ _ _ us hl => by obtain ⟨_, _, _, rfl⟩ := args3_of us hl; rfl
  have U_sums := fun_mk (st := s_sums) l_sums c_sums k_sums
  have b_sums := U_sums.binds (ps := ["web", "stands"]) fun _ _ _ _ _ _ us hl => by obtain ⟨_, _, rfl⟩ := args2_of us hl; rfl
  have U__law_wide := fun_mk (st := s__law_wide) l__law_wide c__law_wide k__law_wide
  have b__law_wide := U__law_wide.binds (ps := ["_law_script", "_law_k"]) fun _ _ _ _ _ _ us hl => by obtain ⟨_, _, rfl⟩ := args2_of us hl; rfl
  have U__law_cell := fun_mk (st := s__law_cell) l__law_cell c__law_cell k__law_cell
  have b__law_cell := U__law_cell.binds (ps := ["_law_script", "_law_k"]) fun _ _ _ _ _ _ us hl => by obtain ⟨_, _, rfl⟩ := args2_of us hl; rfl
  have U__law_digit := fun_mk (st := s__law_digit) l__law_digit c__law_digit k__law_digit
  have b__law_digit := U__law_digit.binds (ps := ["_law_state", "_law_most"]) fun _ _ _ _ _ _ us hl => by obtain ⟨_, _, rfl⟩ := args2_of us hl; rfl
  have U__law_weight := fun_mk (st := s__law_weight) l__law_weight c__law_weight k__law_weight
  have b__law_weight := U__law_weight.binds (ps := ["_law_state", "_law_sort"]) fun _ _ _ _ _ _ us hl => by obtain ⟨_, _, rfl⟩ := args2_of us hl; rfl
  have U__law_bar := fun_mk (st := s__law_bar) l__law_bar c__law_bar k__law_bar
  have b__law_bar := U__law_bar.binds (ps := ["_law_state", "_law_total"]) fun _ _ _ _ _ _ us hl => by obtain ⟨_, _, rfl⟩ := args2_of us hl; rfl
  have U__law_web := fun_mk (st := s__law_web) l__law_web c__law_web k__law_web
  have b__law_web := U__law_web.binds (ps := ["_law_script"]) fun _ _ _ _ _ _ us hl => by obtain ⟨_, rfl⟩ := args1_of us hl; rfl
  have U__law_stand := fun_mk (st := s__law_stand) l__law_stand c__law_stand k__law_stand
  have b__law_stand := U__law_stand.binds (ps := ["_law_web_here", "_law_states"]) fun _ _ _ _ _ _ us hl => by obtain ⟨_, _, rfl⟩ := args2_of us hl; rfl
  have U__law_turn := fun_mk (st := s__law_turn) l__law_turn c__law_turn k__law_turn
  have b__law_turn := U__law_turn.binds (ps := ["_law_web_here", "_law_stand_here"]) fun _ _ _ _ _ _ us hl => by obtain ⟨_, _, rfl⟩ := args2_of us hl; rfl
  have U__law_turns := fun_mk (st := s__law_turns) l__law_turns c__law_turns k__law_turns
  have b__law_turns := U__law_turns.binds (ps := ["_law_head", "_law_many"]) fun _ _ _ _ _ _ us hl => by obtain ⟨_, _, rfl⟩ := args2_of us hl; rfl
  have U__law_are_stands := fun_mk (st := s__law_are_stands) l__law_are_stands c__law_are_stands k__law_are_stands
  have b__law_are_stands := U__law_are_stands.binds (ps := ["_law_found", "_law_due"]) fun _ _ _ _ _ _ us hl => by obtain ⟨_, _, rfl⟩ := args2_of us hl; rfl
  have U__law_none := fun_mk (st := s__law_none) l__law_none c__law_none k__law_none
  have b__law_none := U__law_none.binds (ps := ["_law_web_here", "_law_stand_here", "_law_cell_here"]) fun _ _ _ _ _ _ us hl => by obtain ⟨_, _, _, rfl⟩ := args3_of us hl; rfl
  have U__law_too_long := fun_mk (st := s__law_too_long) l__law_too_long c__law_too_long k__law_too_long
  have b__law_too_long := U__law_too_long.binds (ps := ["_law_web_here", "_law_stand_here", "_law_turns_here"]) fun _ _ _ _ _ _ us hl => by obtain ⟨_, _, _, rfl⟩ := args3_of us hl; rfl
  have U__law_refused := fun_mk (st := s__law_refused) l__law_refused c__law_refused k__law_refused
  have b__law_refused := U__law_refused.binds (ps := ["_law_web_here", "_law_stand_here", "_law_thing", "_law_way"]) fun _ _ _ _ _ _ us hl => by obtain ⟨_, _, _, _, rfl⟩ := args4_of us hl; rfl
  have U_law := fun_mk (st := s_law) l_law c_law k_law
  refine ⟨PySem.W.fnOf "law" "law" (defArgs s_law) (defBody s_law) (defScope s_law) .none kV_law dc_law pm_law an_law cd_law ct_law, fun s v => .of_eq rfl, fun base KB _ => ?_⟩
  have o_TooLong := own_in (mg := mg) KB g_TooLong w_own_TooLong
  have o_NoStand := own_in (mg := mg) KB g_NoStand w_own_NoStand
  have D_is_whole : Def l.prog w K mg base "is_whole" 1 1 F_is_whole := Def.mk' (PySem.W.mg_of X G a_is_whole) k_is_whole b_is_whole (ok_is_whole (P := l.prog) (w := w) (base := base) U_is_whole m_isinstance m_bool m_int)
  have D_is_between : Def l.prog w K mg base "is_between" 2 3 F_is_between := Def.mk' (PySem.W.mg_of X G a_is_between) k_is_between b_is_between (ok_is_between (P := l.prog) (w := w) (base := base) U_is_between D_is_whole)
  have D_is_opinion : Def l.prog w K mg base "is_opinion" 3 1 F_is_opinion := Def.mk' (PySem.W.mg_of X G a_is_opinion) k_is_opinion b_is_opinion (ok_is_opinion (P := l.prog) (w := w) (base := base) U_is_opinion D_is_between)
  have D_many_of : Def l.prog w K mg base "many_of" 1 1 F_many_of := Def.mk' (PySem.W.mg_of X G a_many_of) k_many_of b_many_of (ok_many_of (P := l.prog) (w := w) (base := base) U_many_of m_len)
  have D_ties_of : Def l.prog w K mg base "ties_of" 1 2 F_ties_of := Def.mk' (PySem.W.mg_of X G a_ties_of) k_ties_of b_ties_of (ok_ties_of (P := l.prog) (w := w) (base := base) U_ties_of)
  have D_bar_of : Def l.prog w K mg base "bar_of" 1 2 F_bar_of := Def.mk' (PySem.W.mg_of X G a_bar_of) k_bar_of b_bar_of (ok_bar_of (P := l.prog) (w := w) (base := base) U_bar_of)
  have D_stay_of : Def l.prog w K mg base "stay_of" 1 2 F_stay_of := Def.mk' (PySem.W.mg_of X G a_stay_of) k_stay_of b_stay_of (ok_stay_of (P := l.prog) (w := w) (base := base) U_stay_of)
  have D_fits : Def l.prog w K mg base "fits" 4 2 F_fits := Def.mk' (PySem.W.mg_of X G a_fits) k_fits b_fits (ok_fits (P := l.prog) (w := w) (base := base) U_fits m_enumerate m_len m_isinstance m_tuple D_stay_of D_is_opinion D_many_of)
  have D_check_stand : Def l.prog w K mg base "check_stand" 5 2 F_check_stand := Def.mk' (PySem.W.mg_of X G a_check_stand) k_check_stand b_check_stand (ok_check_stand (P := l.prog) (w := w) (base := base) U_check_stand D_fits)
  have D_pull_at : Def l.prog w K mg base "pull_at" 2 3 F_pull_at := Def.mk' (PySem.W.mg_of X G a_pull_at) k_pull_at b_pull_at (ok_pull_at (P := l.prog) (w := w) (base := base) U_pull_at m_sum D_ties_of)
  have D_next_at : Def l.prog w K mg base "next_at" 3 3 F_next_at := Def.mk' (PySem.W.mg_of X G a_next_at) k_next_at b_next_at (ok_next_at (P := l.prog) (w := w) (base := base) U_next_at D_bar_of D_pull_at D_stay_of)
  have D_turn_at : Def l.prog w K mg base "turn_at" 4 2 F_turn_at := Def.mk' (PySem.W.mg_of X G a_turn_at) k_turn_at b_turn_at (ok_turn_at (P := l.prog) (w := w) (base := base) U_turn_at m_tuple m_range D_many_of D_next_at)
  have D_history : Def l.prog w K mg base "history" 6 3 F_history := Def.mk' (PySem.W.mg_of X G a_history) k_history b_history (ok_history (P := l.prog) (w := w) (base := base) U_history m_range g_MOST_TURNS D_turn_at D_check_stand)
  have D_ended : Def l.prog w K mg base "ended" 6 2 F_ended := Def.mk' (PySem.W.mg_of X G a_ended) k_ended b_ended (ok_ended (P := l.prog) (w := w) (base := base) U_ended m_len D_turn_at D_check_stand)
  have D_sum_at : Def l.prog w K mg base "sum_at" 3 3 F_sum_at := Def.mk' (PySem.W.mg_of X G a_sum_at) k_sum_at b_sum_at (ok_sum_at (P := l.prog) (w := w) (base := base) U_sum_at m_range D_many_of D_pull_at D_bar_of)
  have D_sums : Def l.prog w K mg base "sums" 6 2 F_sums := Def.mk' (PySem.W.mg_of X G a_sums) k_sums b_sums (ok_sums (P := l.prog) (w := w) (base := base) U_sums m_range m_len D_sum_at D_check_stand)
  have D__law_wide : Def l.prog w K mg base "_law_wide" 1 2 F_l_wide := Def.mk' (PySem.W.mg_of X G a__law_wide) k__law_wide b__law_wide (ok__law_wide (P := l.prog) (w := w) (base := base) U__law_wide m_range m_len)
  have D__law_cell : Def l.prog w K mg base "_law_cell" 2 2 F_l_cell := Def.mk' (PySem.W.mg_of X G a__law_cell) k__law_cell b__law_cell (ok__law_cell (P := l.prog) (w := w) (base := base) U__law_cell m_len D__law_wide)
  have D__law_digit : Def l.prog w K mg base "_law_digit" 1 2 F_l_digit := Def.mk' (PySem.W.mg_of X G a__law_digit) k__law_digit b__law_digit (ok__law_digit (P := l.prog) (w := w) (base := base) U__law_digit)
  have D__law_weight : Def l.prog w K mg base "_law_weight" 2 2 F_l_weight := Def.mk' (PySem.W.mg_of X G a__law_weight) k__law_weight b__law_weight (ok__law_weight (P := l.prog) (w := w) (base := base) U__law_weight m_int D__law_digit)
  have D__law_bar : Def l.prog w K mg base "_law_bar" 2 2 F_l_bar := Def.mk' (PySem.W.mg_of X G a__law_bar) k__law_bar b__law_bar (ok__law_bar (P := l.prog) (w := w) (base := base) U__law_bar D__law_digit)
  have D__law_web : Def l.prog w K mg base "_law_web" 3 1 F_l_web := Def.mk' (PySem.W.mg_of X G a__law_web) k__law_web b__law_web (ok__law_web (P := l.prog) (w := w) (base := base) U__law_web m_tuple m_sorted m_range m_sum D__law_digit D__law_bar D__law_weight D__law_cell)
  have D__law_stand : Def l.prog w K mg base "_law_stand" 2 2 F_l_stand := Def.mk' (PySem.W.mg_of X G a__law_stand) k__law_stand b__law_stand (ok__law_stand (P := l.prog) (w := w) (base := base) U__law_stand m_tuple m_range m_len D__law_digit)
  have D__law_turn : Def l.prog w K mg base "_law_turn" 1 2 F_l_turn := Def.mk' (PySem.W.mg_of X G a__law_turn) k__law_turn b__law_turn (ok__law_turn (P := l.prog) (w := w) (base := base) U__law_turn m_tuple m_range m_len m_int m_sum)
  have D__law_turns : Def l.prog w K mg base "_law_turns" 2 2 F_l_turns := Def.mk' (PySem.W.mg_of X G a__law_turns) k__law_turns b__law_turns (ok__law_turns (P := l.prog) (w := w) (base := base) U__law_turns D__law_digit)
  have D__law_are_stands : Def l.prog w K mg base "_law_are_stands" 1 2 F_l_are_stands := Def.mk' (PySem.W.mg_of X G a__law_are_stands) k__law_are_stands b__law_are_stands (ok__law_are_stands (P := l.prog) (w := w) (base := base) U__law_are_stands m_isinstance m_bool m_int m_tuple m_list)
  have D__law_none : Def l.prog w K mg base "_law_none" 1 3 F_l_none := Def.mk' (PySem.W.mg_of X G a__law_none) k__law_none b__law_none (ok__law_none (P := l.prog) (w := w) (base := base) U__law_none m_len m_range m_list)
  have X_check_stand : DefY l.prog w K mg base "check_stand" 5 2 FY_check_stand := DefY.mk' (PySem.W.mg_of X G a_check_stand) k_check_stand b_check_stand (oky_check_stand (P := l.prog) (w := w) (base := base) U_check_stand D_fits o_NoStand)
  have X_history : DefY l.prog w K mg base "history" 6 3 FY_history := DefY.mk' (PySem.W.mg_of X G a_history) k_history b_history (oky_history (P := l.prog) (w := w) (base := base) U_history m_range D_turn_at g_MOST_TURNS X_check_stand o_TooLong)
  have X_ended : DefY l.prog w K mg base "ended" 6 2 FY_ended := DefY.mk' (PySem.W.mg_of X G a_ended) k_ended b_ended (oky_ended (P := l.prog) (w := w) (base := base) U_ended m_len D_turn_at X_check_stand)
  have X_sums : DefY l.prog w K mg base "sums" 6 2 FY_sums := DefY.mk' (PySem.W.mg_of X G a_sums) k_sums b_sums (oky_sums (P := l.prog) (w := w) (base := base) U_sums m_range m_len D_sum_at X_check_stand)
  have D__law_too_long : Def l.prog w K mg base "_law_too_long" 7 3 F_l_too_long := Def.mk' (PySem.W.mg_of X G a__law_too_long) k__law_too_long b__law_too_long (ok__law_too_long (P := l.prog) (w := w) (base := base) U__law_too_long m_isinstance m_ValueError X_history g_MostError g_TooLong g_NoOrder g_NoPeople g_NoRest g_NoRow g_NoStand g_NoText g_NoWeb g_TooMuch w_be (by rw [w_is]; rfl) w_ty w_sub_TooLong ⟨w_z1_TooLong, w_z2_TooLong, w_z3_TooLong, w_z4_TooLong, w_z5_TooLong, by rw [w_z6_TooLong]; rfl⟩ w_k8_TooLong w_kA_TooLong w_kV_TooLong)
  have D__law_refused : Def l.prog w K mg base "_law_refused" 7 4 F_l_refused := Def.mk' (PySem.W.mg_of X G a__law_refused) k__law_refused b__law_refused (ok__law_refused (P := l.prog) (w := w) (base := base) U__law_refused m_isinstance m_ValueError m_len X_history X_ended X_sums g_MostError g_NoStand g_NoOrder g_NoPeople g_NoRest g_NoRow g_NoText g_NoWeb g_TooLong g_TooMuch w_be (by rw [w_is]; rfl) w_ty w_sub_NoStand ⟨w_z1_NoStand, w_z2_NoStand, w_z3_NoStand, w_z4_NoStand, w_z5_NoStand, by rw [w_z6_NoStand]; rfl⟩ w_k8_NoStand w_kA_NoStand w_kV_NoStand)
  exact ok_law (P := l.prog) (w := w) (base := base) U_law m_range m_len D_history D__law_are_stands D__law_too_long D__law_digit D__law_refused D__law_none D__law_wide D__law_turn D__law_turns D__law_stand D__law_web
end Fm
set_option Elab.async false
set_option linter.all false
set_option maxRecDepth 100000
def PySem.W.Fast.tw90343872475197607 : Type := PySem.Params
theorem PySem.W.Fast.te90343872475197607 : PySem.Params = PySem.W.Fast.tw90343872475197607 := rfl
open PySem PySem.W PyProof.Rows
set_option maxRecDepth 100000 in
set_option maxHeartbeats 0 in
theorem PySem.Challenge.cw_followmost_k10_histories_told_holds : PySem.Challenge.rw_followmost_k10_histories_told.Holds := by
  w_on; o_law; k_head; (case hw => w_witness2)
  k_fill
  refine Fm.walkF (l := PySem.Challenge.rw_followmost_k10_histories_told) (F := Fm.F_law) (k := 8) (x := "_law_script") rfl rfl ⟨rfl, by decide, by decide⟩ (fun w h Y => PySem.W.kIn_of Y) ?F Fm.law_ok
  case F =>
    intro w mg fa h KX G hmg
    refine' Fm.all_mk KX G hmg ?a_is_whole ?l_is_whole ?c_is_whole ?k_is_whole ?a_is_between ?l_is_between ?c_is_between ?k_is_between ?a_is_opinion ?l_is_opinion ?c_is_opinion ?k_is_opinion ?a_many_of ?l_many_of ?c_many_of ?k_many_of ?a_ties_of ?l_ties_of ?c_ties_of ?k_ties_of ?a_bar_of ?l_bar_of ?c_bar_of ?k_bar_of ?a_stay_of ?l_stay_of ?c_stay_of ?k_stay_of ?a_fits ?l_fits ?c_fits ?k_fits ?a_check_stand ?l_check_stand ?c_check_stand ?k_check_stand ?a_pull_at ?l_pull_at ?c_pull_at ?k_pull_at ?a_next_at ?l_next_at ?c_next_at ?k_next_at ?a_turn_at ?l_turn_at ?c_turn_at ?k_turn_at ?a_history ?l_history ?c_history ?k_history ?a_ended ?l_ended ?c_ended ?k_ended ?a_sum_at ?l_sum_at ?c_sum_at ?k_sum_at ?a_sums ?l_sums ?c_sums ?k_sums ?a__law_wide ?l__law_wide ?c__law_wide ?k__law_wide ?a__law_cell ?l__law_cell ?c__law_cell ?k__law_cell ?a__law_digit ?l__law_digit ?c__law_digit ?k__law_digit ?a__law_weight ?l__law_weight ?c__law_weight ?k__law_weight ?a__law_bar ?l__law_bar ?c__law_bar ?k__law_bar ?a__law_web ?l__law_web ?c__law_web ?k__law_web ?a__law_stand ?l__law_stand ?c__law_stand ?k__law_stand ?a__law_turn ?l__law_turn ?c__law_turn ?k__law_turn ?a__law_turns ?l__law_turns ?c__law_turns ?k__law_turns ?a__law_are_stands ?l__law_are_stands ?c__law_are_stands ?k__law_are_stands ?a__law_none ?l__law_none ?c__law_none ?k__law_none ?a__law_too_long ?l__law_too_long ?c__law_too_long ?k__law_too_long ?a__law_refused ?l__law_refused ?c__law_refused ?k__law_refused ?a_law ?l_law ?c_law ?k_law ?z_isinstance ?z_bool ?z_int ?z_len ?z_enumerate ?z_tuple ?z_sum ?z_range ?z_sorted ?z_list ?z_ValueError ?z_MOST_TURNS ?y_MostError ?y_NoStand ?y_NoOrder ?y_NoPeople ?y_NoRest ?y_NoRow ?y_NoText ?y_NoWeb ?y_TooLong ?y_TooMuch ?w_own_TooLong ?w_be ?w_is ?w_ty ?w_sub_TooLong ?w_z1_TooLong ?w_z2_TooLong ?w_z3_TooLong ?w_z4_TooLong ?w_z5_TooLong ?w_z6_TooLong ?w_k8_TooLong ?w_kA_TooLong ?w_kV_TooLong ?w_own_NoStand ?w_sub_NoStand ?w_z1_NoStand ?w_z2_NoStand ?w_z3_NoStand ?w_z4_NoStand ?w_z5_NoStand ?w_z6_NoStand ?w_k8_NoStand ?w_kA_NoStand ?w_kV_NoStand
    (case a_is_whole => k_is)
    (case l_is_whole => k_is)
    (case c_is_whole => k_is)
    (case k_is_whole => k_is)
    (case a_is_between => k_is)
    (case l_is_between => k_is)
    (case c_is_between => k_is)
    (case k_is_between => k_is)
    (case a_is_opinion => k_is)
    (case l_is_opinion => k_is)
    (case c_is_opinion => k_is)
    (case k_is_opinion => k_is)
    (case a_many_of => k_is)
    (case l_many_of => k_is)
    (case c_many_of => k_is)
    (case k_many_of => k_is)
    (case a_ties_of => k_is)
    (case l_ties_of => k_is)
    (case c_ties_of => k_is)
    (case k_ties_of => k_is)
    (case a_bar_of => k_is)
    (case l_bar_of => k_is)
    (case c_bar_of => k_is)
    (case k_bar_of => k_is)
    (case a_stay_of => k_is)
    (case l_stay_of => k_is)
    (case c_stay_of => k_is)
    (case k_stay_of => k_is)
    (case a_fits => k_is)
    (case l_fits => k_is)
    (case c_fits => k_is)
    (case k_fits => k_is)
    (case a_check_stand => k_is)
    (case l_check_stand => k_is)
    (case c_check_stand => k_is)
    (case k_check_stand => k_is)
    (case a_pull_at => k_is)
    (case l_pull_at => k_is)
    (case c_pull_at => k_is)
    (case k_pull_at => k_is)
    (case a_next_at => k_is)
    (case l_next_at => k_is)
    (case c_next_at => k_is)
    (case k_next_at => k_is)
    (case a_turn_at => k_is)
    (case l_turn_at => k_is)
    (case c_turn_at => k_is)
    (case k_turn_at => k_is)
    (case a_history => k_is)
    (case l_history => k_is)
    (case c_history => k_is)
    (case k_history => k_is)
    (case a_ended => k_is)
    (case l_ended => k_is)
    (case c_ended => k_is)
    (case k_ended => k_is)
    (case a_sum_at => k_is)
    (case l_sum_at => k_is)
    (case c_sum_at => k_is)
    (case k_sum_at => k_is)
    (case a_sums => k_is)
    (case l_sums => k_is)
    (case c_sums => k_is)
    (case k_sums => k_is)
    (case a__law_wide => k_is)
    (case l__law_wide => k_is)
    (case c__law_wide => k_is)
    (case k__law_wide => k_is)
    (case a__law_cell => k_is)
    (case l__law_cell => k_is)
    (case c__law_cell => k_is)
    (case k__law_cell => k_is)
    (case a__law_digit => k_is)
    (case l__law_digit => k_is)
    (case c__law_digit => k_is)
    (case k__law_digit => k_is)
    (case a__law_weight => k_is)
    (case l__law_weight => k_is)
    (case c__law_weight => k_is)
    (case k__law_weight => k_is)
    (case a__law_bar => k_is)
    (case l__law_bar => k_is)
    (case c__law_bar => k_is)
    (case k__law_bar => k_is)
    (case a__law_web => k_is)
    (case l__law_web => k_is)
    (case c__law_web => k_is)
    (case k__law_web => k_is)
    (case a__law_stand => k_is)
    (case l__law_stand => k_is)
    (case c__law_stand => k_is)
    (case k__law_stand => k_is)
    (case a__law_turn => k_is)
    (case l__law_turn => k_is)
    (case c__law_turn => k_is)
    (case k__law_turn => k_is)
    (case a__law_turns => k_is)
    (case l__law_turns => k_is)
    (case c__law_turns => k_is)
    (case k__law_turns => k_is)
    (case a__law_are_stands => k_is)
    (case l__law_are_stands => k_is)
    (case c__law_are_stands => k_is)
    (case k__law_are_stands => k_is)
    (case a__law_none => k_is)
    (case l__law_none => k_is)
    (case c__law_none => k_is)
    (case k__law_none => k_is)
    (case a__law_too_long => k_is)
    (case l__law_too_long => k_is)
    (case c__law_too_long => k_is)
    (case k__law_too_long => k_is)
    (case a__law_refused => k_is)
    (case l__law_refused => k_is)
    (case c__law_refused => k_is)
    (case k__law_refused => k_is)
    (case a_law => k_is)
    (case l_law => k_is)
    (case c_law => k_is)
    (case k_law => k_is)
    (case z_isinstance => k_is)
    (case z_bool => k_is)
    (case z_int => k_is)
    (case z_len => k_is)
    (case z_enumerate => k_is)
    (case z_tuple => k_is)
    (case z_sum => k_is)
    (case z_range => k_is)
    (case z_sorted => k_is)
    (case z_list => k_is)
    (case z_ValueError => k_is)
    (case z_MOST_TURNS => k_is)
    (case y_MostError => k_is)
    (case y_NoStand => k_is)
    (case y_NoOrder => k_is)
    (case y_NoPeople => k_is)
    (case y_NoRest => k_is)
    (case y_NoRow => k_is)
    (case y_NoText => k_is)
    (case y_NoWeb => k_is)
    (case y_TooLong => k_is)
    (case y_TooMuch => k_is)
    (case w_own_TooLong => k_exc)
    (case w_be => k_is)
    (case w_is => k_is)
    (case w_ty => k_is)
    (case w_sub_TooLong => k_is)
    (case w_z1_TooLong => k_is)
    (case w_z2_TooLong => k_is)
    (case w_z3_TooLong => k_is)
    (case w_z4_TooLong => k_is)
    (case w_z5_TooLong => k_is)
    (case w_z6_TooLong => k_is)
    (case w_k8_TooLong => kit_is)
    (case w_kA_TooLong => kit_is)
    (case w_kV_TooLong => kit_is)
    (case w_own_NoStand => k_exc)
    (case w_sub_NoStand => k_is)
    (case w_z1_NoStand => k_is)
    (case w_z2_NoStand => k_is)
    (case w_z3_NoStand => k_is)
    (case w_z4_NoStand => k_is)
    (case w_z5_NoStand => k_is)
    (case w_z6_NoStand => k_is)
    (case w_k8_NoStand => kit_is)
    (case w_kA_NoStand => kit_is)
    (case w_kV_NoStand => kit_is)
