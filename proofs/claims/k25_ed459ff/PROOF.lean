import PyProof.Rows.All
import Wide.All
import OpenK.AllK
import Wide.FinOn
import Lean
import PyProof.EqAt
import PyProof.EqKinds
import PyProof.TupleCall
import PyProof.NeKinds
import PyProof.IsInstanceH
import PyProof.IsiNone
import PyProof.EnumMake
import PyProof.Draws
import PyProof.ZipIter
import PyProof.ListRange
import PySem.Challenge.RW_followmost_k25_whole_all_between
set_option Elab.async false
set_option linter.all false
set_option maxRecDepth 100000
namespace L2
open PySem PySem.Spec PyProof.Rows
noncomputable abbrev Key := Sum Int Str
noncomputable def keyIs : Key → Value → Bool
  | .inl k, v => Value.isInt k v
  | .inr x, v => Value.isStrOf x v
noncomputable def keyH (w : World) : Key → Int
  | .inl k => hashInt k
  | .inr x => hashStr w x
theorem keyIs_shape : ∀ {k : Key} {v : Value}, keyIs k v = true → (∃ i t, k = Sum.inl i ∧ v = Value.int i t) ∨ (∃ x t, k = Sum.inr x ∧ v = Value.str x t)
  | .inl i, v, h => by
    obtain ⟨t, e⟩ := Value.isInt_shape (k := i) (v := v) h
    exact .inl ⟨i, t, rfl, e⟩
  | .inr x, v, h => by
    obtain ⟨t, e⟩ := Value.isStrOf_shape (x := x) (v := v) h
    exact .inr ⟨x, t, rfl, e⟩
theorem keyIs_int (i : Int) (t : Tok) : keyIs (.inl i) (.int i t) = true := by simp [keyIs, Value.isInt]
theorem keyIs_str (x : Str) (t : Tok) : keyIs (.inr x) (.str x t) = true := by simp [keyIs, Value.isStrOf]
theorem key_ll (a b : Int) : decide ((Sum.inl a : Key) = Sum.inl b) = (a == b) := by
  by_cases e : a = b
  · subst e; simp
  · have h : ¬ (Sum.inl a : Key) = Sum.inl b := fun q => e (Sum.inl.inj q)
    rw [decide_eq_false h]
    exact (beq_eq_false_iff_ne.mpr e).symm
theorem key_rr (a b : Str) : decide ((Sum.inr a : Key) = Sum.inr b) = decide (a = b) := by
  by_cases e : a = b
  · subst e; simp
  · have h : ¬ (Sum.inr a : Key) = Sum.inr b := fun q => e (Sum.inr.inj q)
    rw [decide_eq_false h, decide_eq_false e]
theorem key_lr (a : Int) (b : Str) : decide ((Sum.inl a : Key) = Sum.inr b) = false := decide_eq_false (fun q => nomatch q)
theorem key_rl (a : Str) (b : Int) : decide ((Sum.inr a : Key) = Sum.inl b) = false := decide_eq_false (fun q => nomatch q)
noncomputable def mixKind (prog : Program) (w : World) : PySem.KeyKind prog w Key where
  is := keyIs
  hash := keyH w
  inj := fun v a b ha hb => by
    rcases keyIs_shape ha with ⟨i, t, rfl, rfl⟩ | ⟨x, t, rfl, rfl⟩
    · rcases keyIs_shape hb with ⟨j, u, rfl, e⟩ | ⟨y, u, rfl, e⟩
      · injection e with e1 _; rw [e1]
      · exact nomatch e
    · rcases keyIs_shape hb with ⟨j, u, rfl, e⟩ | ⟨y, u, rfl, e⟩
      · exact nomatch e
      · injection e with e1 _; rw [e1]
  byValue := fun k v h => by
    rcases keyIs_shape h with ⟨i, t, rfl, rfl⟩ | ⟨x, t, rfl, rfl⟩ <;> rfl
  pyHash := fun hv h => by
    rcases keyIs_shape hv with ⟨i, t, rfl, rfl⟩ | ⟨x, t, rfl, rfl⟩
    · exact wpAny_pyHash_int h
    · exact wpAny_pyHash_str h
  eqBool := fun hu hv h => by
    rcases keyIs_shape hu with ⟨i, t, rfl, rfl⟩ | ⟨x, t, rfl, rfl⟩
    · rcases keyIs_shape hv with ⟨j, u, rfl, rfl⟩ | ⟨y, u, rfl, rfl⟩
      · rw [key_ll] at h; exact wpAny_eqBool_int h
      · rw [key_lr] at h; exact SeqAt.EqAt.int_str i t y u _ _ _ _ h
    · rcases keyIs_shape hv with ⟨j, u, rfl, rfl⟩ | ⟨y, u, rfl, rfl⟩
      · rw [key_rl] at h; exact SeqAt.EqAt.str_int x t j u _ _ _ _ h
      · rw [key_rr] at h; exact wpAny_eqBool_str h
  «strs» := fun k x t v h => by
    rcases keyIs_shape h with ⟨i, u, rfl, e⟩ | ⟨y, u, rfl, e⟩
    · exact nomatch e
    · injection e with e1 _
      subst e1
      cases v <;> rfl
theorem mixKind_int (prog : Program) (w : World) (i : Int) (t : Tok) : (mixKind prog w).is (.inl i) (.int i t) = true := keyIs_int i t
theorem mixKind_str (prog : Program) (w : World) (x : Str) (t : Tok) : (mixKind prog w).is (.inr x) (.str x t) = true := keyIs_str x t
end L2
namespace L2
open PySem PySem.Spec PyProof.Rows
inductive V where
  | non | bl (b : Bool) | int (i : Int) | str (x : Str) | byt (b : Array UInt8) | flt (b : UInt64) | ref (a : Addr) | ty (n : String)
  deriving DecidableEq
noncomputable def RelV : V → Value → Prop
  | .non, u => u = Value.none
  | .bl b, u => u = Value.bool b
  | .int i, u => ∃ t, u = Value.int i t
  | .str x, u => ∃ t, u = Value.str x t
  | .byt b, u => ∃ t, u = Value.bytes b t
  | .flt b, u => ∃ t, u = Value.float b t
  | .ref a, u => u = Value.ref a
  | .ty n, u => u = Value.type n
noncomputable abbrev Vals : List V → List Value → Prop := Paired RelV
theorem Vals.length {xs : List V} {us : List Value} (r : Vals xs us) : xs.length = us.length := Paired.length r
theorem Vals.get : ∀ {xs : List V} {us : List Value} {i : Nat} {x : V}, Vals xs us → xs[i]? = some x → ∃ u, us[i]? = some u ∧ RelV x u
  | _, _, _, _, .nil, e => by simp at e
  | _, _, 0, _, .cons r _, e => by simp at e; subst e; exact ⟨_, rfl, r⟩
  | _, _, i + 1, x, .cons _ t, e => by
    obtain ⟨u, h1, h2⟩ := Vals.get (i := i) (x := x) t (by simpa using e)
    exact ⟨u, by simpa using h1, h2⟩
theorem Vals.set {x : V} {u : Value} (r : RelV x u) : ∀ {xs : List V} {us : List Value} (i : Nat), Vals xs us → Vals (xs.set i x) (us.set i u)
  | _, _, _, .nil => .nil
  | _, _, 0, .cons _ t => .cons r t
  | _, _, i + 1, .cons q t => .cons q (Vals.set r i t)
theorem Vals.append : ∀ {xs ys : List V} {us ws : List Value}, Vals xs us → Vals ys ws → Vals (xs ++ ys) (us ++ ws)
  | _, _, _, _, .nil, s => s
  | _, _, _, _, .cons r t, s => .cons r (Vals.append t s)
noncomputable def RelO : Option V → Option Value → Prop
  | some v, some u => RelV v u
  | none, none => True
  | _, _ => False
noncomputable def KV {κ : Type} : List (κ × V) → List (κ × Value) → Prop := Paired fun (p : κ × V) (q : κ × Value) => p.1 = q.1 ∧ RelV p.2 q.2
noncomputable def kV : Key → V
  | .inl i => .int i
  | .inr x => .str x
inductive HO where
    | lst (xs : List V)
    | tup (xs : List V)
    | dK (kvs : List (Key × V)) | dT (kvs : List (List Key × V))
    | set (S : Int → Bool) (n : Nat)
    | ins (C dx : Addr) (fs : List (Str × V))
    | own (x : Addr)
    | xd (fs : List (Str × V))
    | met (f x : Addr)
    | rng (lo hi : Int)
    | frz (o : Obj) (u : HO)
    | tbl (ps : Array Value)
    | ext (φ : Heap → Prop)
noncomputable abbrev Hp := Addr → Option HO
noncomputable def upd (H : Hp) (a : Addr) (o : HO) : Hp := fun b => if b = a then some o else H b
theorem upd_same {H : Hp} {a : Addr} {o : HO} : upd H a o a = some o := by unfold upd; rw [if_pos rfl]
theorem upd_ne {H : Hp} {a b : Addr} {o : HO} (h : b ≠ a) : upd H a o b = H b := by unfold upd; rw [if_neg h]
theorem ne_of {H : Hp} {a b : Addr} {o u : HO} (h : H a = some o) (h' : H b = some u) (d : o ≠ u) : a ≠ b := by
  intro e; subst e; rw [h] at h'; exact d (Option.some.inj h')
theorem ne_of_none {H : Hp} {a b : Addr} {o : HO} (h : H a = some o) (h' : H b = none) : a ≠ b := by
  intro e; subst e; rw [h] at h'; cases h'
section
variable (P : Program) (w : World)
noncomputable def ObjOk (H : Hp) (h : Heap) (a : Addr) : HO → Prop
  | .lst xs => xs.length ≤ sizeLine ∧ ∃ (its : List Value) (n : Nat), Vals xs its ∧ h.get? a = some { cls := .type "list", data := .seq its.toArray n }
  | .tup xs => xs.length ≤ sizeLine ∧ ∃ its : List Value, Vals xs its ∧ IsTup h a its.toArray
  | .dK kvs => kvs.length ≤ sizeLine ∧ (a == sysModules) = false ∧ ∃ vs, KV kvs vs ∧ h.DictOf (mixKind P w) a vs
  | .dT kvs => kvs.length ≤ sizeLine ∧ (a == sysModules) = false ∧ ∃ xs : List (List Key × Addr × Value),
      Paired (fun (p : List Key × V) (q : List Key × Addr × Value) => p.1 = q.1 ∧ H q.2.1 = some (.tup (p.1.map kV)) ∧ RelV p.2 q.2.2) kvs xs ∧
      ∃ o es ep, h.get? a = some o ∧ o.ExactDict ∧ o.data = .dict es ep ∧ es.toList = xs.map (entryOfKey (tupleKind (mixKind P w))) ∧ (xs.map (·.1)).Nodup
  | .set S n => h.SetOf (intKind P w) a S n
  | .ins C dx fs => H dx = some (.own a) ∧ fs.length ≤ 1000 ∧ dx ≠ a ∧ h.get? a = some (PySem.W.instObj C dx) ∧
      ∃ mA, h.Ns1 dx mA ∧ (∀ f, RelO (fs.lookup f) (mA f)) ∧ PySem.Within mA (fs.map (·.1))
  | .own _ => ∃ o, h.get? a = some o
  | .xd fs => ∃ mA, h.Ns1 a mA ∧ ∀ f, RelO (fs.lookup f) (mA f)
  | .rng lo hi => ∃ t u v, h.get? a = some { cls := .type "range", data := .fields #[.int lo t, .int hi u, .int 1 v] }
  | .frz o u => h.get? a = some o ∧ ObjOk H h a u
  | .tbl ps => h.get? a = some { cls := .none, data := .fields ps }
  | .met f x => h.get? a = some (PySem.W.methodObj (.ref f) (.ref x))
  | .ext φ => φ h ∧ (∃ o, h.get? a = some o) ∧ ∀ h1 h2 : Heap, φ h1 → (∀ o, h1.get? a = some o → h2.get? a = some o) → φ h2
noncomputable def HOk (H : Hp) (h : Heap) : Prop := ∀ a o, H a = some o → ObjOk P w H h a o
end
section
variable {P : Program} {w : World} {H H' : Hp} {h h' : Heap} {a : Addr} {o : HO}
theorem ObjOk.lt (x : ObjOk P w H h a o) : a < h.objs.size := by
  cases o with
  | lst xs => obtain ⟨_, _, _, _, e⟩ := x; exact Heap.lt_size e
  | tup xs => obtain ⟨_, _, _, p⟩ := x; exact p.lt
  | dK kvs => obtain ⟨_, _, _, _, o, _, _, e, _⟩ := x; exact Heap.lt_size e
  | dT kvs => obtain ⟨_, _, _, _, o, _, _, e, _⟩ := x; exact Heap.lt_size e
  | set S n => obtain ⟨o, _, _, _, e, _⟩ := x; exact Heap.lt_size e
  | ins C dx fs => obtain ⟨_, _, _, e, _⟩ := x; exact Heap.lt_size e
  | own y => obtain ⟨_, e⟩ := x; exact Heap.lt_size e
  | xd fs => obtain ⟨_, ⟨_, _, _, e, _⟩, _⟩ := x; exact Heap.lt_size e
  | rng lo hi => obtain ⟨_, _, _, e⟩ := x; exact Heap.lt_size e
  | frz ob u => obtain ⟨e, _⟩ := x; exact Heap.lt_size e
  | tbl ps => exact Heap.lt_size (show h.get? a = some _ from x)
  | met f y => exact Heap.lt_size (show h.get? a = some _ from x)
  | ext φ => obtain ⟨_, ⟨_, e⟩, _⟩ := x; exact Heap.lt_size e
theorem Paired.mapP {α β : Type} {F G : α → β → Prop} : ∀ {l₁ : List α} {l₂ : List β}, Paired F l₁ l₂ → (∀ a b, F a b → G a b) → Paired G l₁ l₂
  | _, _, .nil, _ => .nil
  | _, _, .cons r t, f => .cons (f _ _ r) (Paired.mapP t f)
theorem ObjOk.stay (x : ObjOk P w H h a o) (k : ∀ b u, (b = a ∨ H b = some (.own a)) → h.get? b = some u → h'.get? b = some u)
    (ho : ∀ b, H b = some (.own a) → H' b = some (.own a)) (ht : ∀ b xs, H b = some (.tup xs) → H' b = some (.tup xs)) : ObjOk P w H' h' a o := by
  induction o with
  | lst xs => obtain ⟨z, its, n, r, e⟩ := x; exact ⟨z, its, n, r, k _ _ (.inl rfl) e⟩
  | tup xs => obtain ⟨z, its, r, ob, e, c⟩ := x; exact ⟨z, its, r, ob, k _ _ (.inl rfl) e, c⟩
  | dK kvs => obtain ⟨z, y, vs, r, ob, es, ep, e, c⟩ := x; exact ⟨z, y, vs, r, ob, es, ep, k _ _ (.inl rfl) e, c⟩
  | dT kvs =>
    obtain ⟨z, y, xs, r, ob, es, ep, e, c⟩ := x
    exact ⟨z, y, xs, Paired.mapP r fun p q z => ⟨z.1, ht _ _ z.2.1, z.2.2⟩, ob, es, ep, k _ _ (.inl rfl) e, c⟩
  | set S n => obtain ⟨ob, es, ep, t, e, c⟩ := x; exact ⟨ob, es, ep, t, k _ _ (.inl rfl) e, c⟩
  | ins C dx fs =>
    obtain ⟨d, z, ne, e, mA, ⟨od, es, ep, e2, c⟩, r⟩ := x
    exact ⟨ho _ d, z, ne, k _ _ (.inl rfl) e, mA, ⟨od, es, ep, k _ _ (.inr d) e2, c⟩, r⟩
  | own y => obtain ⟨ob, e⟩ := x; exact ⟨ob, k _ _ (.inl rfl) e⟩
  | xd fs => obtain ⟨mA, ⟨od, es, ep, e, c⟩, r⟩ := x; exact ⟨mA, ⟨od, es, ep, k _ _ (.inl rfl) e, c⟩, r⟩
  | rng lo hi => obtain ⟨t, u, v, e⟩ := x; exact ⟨t, u, v, k _ _ (.inl rfl) e⟩
  | frz ob u ih => obtain ⟨e, q⟩ := x; exact ⟨k _ _ (.inl rfl) e, ih q⟩
  | tbl ps =>
    have e : h.get? a = some { cls := .none, data := .fields ps } := x
    show h'.get? a = some { cls := .none, data := .fields ps }
    exact k a _ (.inl rfl) e
  | met f y =>
    have e : h.get? a = some (PySem.W.methodObj (.ref f) (.ref y)) := x
    show h'.get? a = some (PySem.W.methodObj (.ref f) (.ref y))
    exact k a _ (.inl rfl) e
  | ext φ => obtain ⟨p, ⟨o, e⟩, st⟩ := x; exact ⟨st _ _ p fun o q => k _ _ (.inl rfl) q, ⟨o, k _ _ (.inl rfl) e⟩, st⟩
theorem HOk.lt (x : HOk P w H h) (e : H a = some o) : a < h.objs.size := (x a o e).lt
theorem HOk.fresh (x : HOk P w H h) (e : h.objs.size ≤ a) : H a = none := by
  cases q : H a with
  | none => rfl
  | some u => exact absurd (Nat.lt_of_lt_of_le (x.lt q) e) (Nat.lt_irrefl _)
theorem HOk.kept (x : HOk P w H h) (k : ∀ b u, h.get? b = some u → h'.get? b = some u) : HOk P w H h' := fun a o e =>
  (x a o e).stay (fun b u _ q => k b u q) (fun _ q => q) fun _ _ q => q
theorem HOk.laid (x : HOk P w H h) (k : ∀ b u, h.get? b = some u → h'.get? b = some u) (hp : h.objs.size ≤ a) (new : ObjOk P w (upd H a o) h' a o) : HOk P w (upd H a o) h' := fun b u e => by
  have hn := x.fresh hp
  by_cases hb : b = a
  · subst hb; rw [upd_same] at e; cases e; exact new
  · rw [upd_ne hb] at e
    exact (x b u e).stay (fun c v _ q => k c v q) (fun c q => by rw [upd_ne (ne_of_none q hn)]; exact q) fun c xs q => by rw [upd_ne (ne_of_none q hn)]; exact q
end
noncomputable def Rd (H : Hp) (a : Addr) (u : HO) : Prop := H a = some u ∨ ∃ o, H a = some (.frz o u)
theorem Rd.ok {P : Program} {w : World} {H : Hp} {h : Heap} {a : Addr} {u : HO} (r : Rd H a u) (x : HOk P w H h) : ObjOk P w H h a u := by
  rcases r with r | ⟨o, r⟩
  · exact x a u r
  · obtain ⟨_, q⟩ := x a _ r
    exact q
noncomputable def Mut : Option HO → Prop
  | some (.lst _) => True
  | some (.dK _) => True
  | some (.dT _) => True
  | some (.set _ _) => True
  | some (.ins _ _ _) => True
  | some (.ext _) => True
  | _ => False
section
variable {P : Program} {w : World} {H : Hp} {h h' : Heap} {x e : Addr} {o' : HO}
theorem HOk.write (ok : HOk P w H h) (mu : Mut (H x)) (he : e = x ∨ H e = some (.own x)) (k : ∀ b u, b ≠ e → h.get? b = some u → h'.get? b = some u) (heo : ∃ u, h'.get? e = some u)
    (new : ObjOk P w (upd H x o') h' x o') : HOk P w (upd H x o') h' := fun b u q => by
  have nown : ∀ c y, H c = some (.own y) → c ≠ x := fun c y r z => by subst z; rw [r] at mu; exact mu
  have ntup : ∀ c xs, H c = some (.tup xs) → c ≠ x := fun c xs r z => by subst z; rw [r] at mu; exact mu
  by_cases hb : b = x
  · subst hb; rw [upd_same] at q; cases q; exact new
  · rw [upd_ne hb] at q
    by_cases hbe : b = e
    · have q' : H b = some (.own x) := by
        rcases he with z | z
        · exact absurd (hbe.trans z) hb
        · rw [hbe]; exact z
      rw [q] at q'; cases q'
      obtain ⟨v, hv⟩ := heo
      exact ⟨v, by rw [hbe]; exact hv⟩
    · refine (ok b u q).stay (fun c v hc r => k c v ?_ r) (fun c r => by rw [upd_ne (nown c b r)]; exact r) fun c xs r => by rw [upd_ne (ntup c xs r)]; exact r
      rcases hc with rfl | hc
      · exact hbe
      · rintro rfl
        rcases he with z | z
        · exact nown c b hc z
        · rw [hc] at z; cases z; exact hb rfl
end
structure Un (fs ex : List Addr) (H H' : Hp) (h h' : Heap) : Prop where
  keep : ∀ b o, h.get? b = some o → H b = none → b ∉ fs → b ∉ ex → h'.get? b = some o
  slot : ∀ b o, h.get? b = some o → H b = none → b ∈ fs → b ∉ ex → ∃ sl, h'.get? b = some { o with slots := sl }
  free : ∀ b o, h.get? b = some o → H b = none → b ∉ ex → H' b = none
  there : ∀ b o, h.get? b = some o → b ∉ ex → ∃ o', h'.get? b = some o'
  tups : ∀ b xs, H b = some (.tup xs) → H' b = some (.tup xs)
  frzs : ∀ b o u, H b = some (.frz o u) → H' b = some (.frz o u)
  tbls : ∀ b ps, H b = some (.tbl ps) → ∃ more, H' b = some (.tbl (ps ++ more))
section
variable {fs fs' ex ex' : List Addr} {H H1 H2 : Hp} {h h1 h2 h' : Heap} {a x e : Addr} {o : HO}
theorem Un.any (u : Un fs ex H H1 h h1) {b : Addr} {ob : Obj} (q : h.get? b = some ob) (n : H b = none) (hx : b ∉ ex) : ∃ sl, h1.get? b = some { ob with slots := sl } := by
  by_cases hb : b ∈ fs
  · exact u.slot b ob q n hb hx
  · exact ⟨ob.slots, u.keep b ob q n hb hx⟩
theorem Un.kept (k : ∀ b u, h.get? b = some u → h'.get? b = some u) : Un fs ex H H h h' :=
  ⟨fun b ob q _ _ _ => k b ob q, fun b ob q _ _ _ => ⟨ob.slots, k b ob q⟩, fun _ _ _ n _ => n, fun b ob q _ => ⟨ob, k b ob q⟩, fun _ _ q => q, fun _ _ _ q => q, fun _ ps q => ⟨#[], by rw [q]; simp⟩⟩
theorem Un.refl : Un fs ex H H h h := Un.kept fun _ _ q => q
theorem Un.laid (k : ∀ b u, h.get? b = some u → h'.get? b = some u) (hp : h.objs.size ≤ a) (hn : H a = none) : Un fs ex H (upd H a o) h h' where
  keep := fun b u q _ _ _ => k b u q
  slot := fun b u q _ _ _ => ⟨u.slots, k b u q⟩
  free := fun b u q n _ => by rw [upd_ne (Nat.ne_of_lt (Nat.lt_of_lt_of_le (Heap.lt_size q) hp))]; exact n
  there := fun b u q _ => ⟨u, k b u q⟩
  tups := fun b xs q => by rw [upd_ne (ne_of_none q hn)]; exact q
  frzs := fun b u xs q => by rw [upd_ne (ne_of_none q hn)]; exact q
  tbls := fun b ps q => ⟨#[], by rw [upd_ne (ne_of_none q hn), q]; simp⟩
theorem Un.write (mu : Mut (H x)) (he : e = x ∨ H e = some (.own x)) (k : ∀ b u, b ≠ e → h.get? b = some u → h'.get? b = some u) (heo : ∃ u, h'.get? e = some u) : Un fs ex H (upd H x o) h h' := by
  have hx : ∀ b, H b = none → b ≠ x := fun b n z => by subst z; rw [n] at mu; exact mu
  have hb : ∀ b, H b = none → b ≠ e := fun b n z => by
    subst z
    rcases he with r | r
    · exact hx b n r
    · rw [n] at r; cases r
  have hm : ∀ b u, H b = some u → ¬ Mut (some u) → b ≠ x := fun b u q nm z => by subst z; rw [q] at mu; exact nm mu
  refine ⟨fun b u q n _ _ => k b u (hb b n) q, fun b u q n _ _ => ⟨u.slots, k b u (hb b n) q⟩, fun b u q n _ => by rw [upd_ne (hx b n)]; exact n, fun b u q _ => ?_,
    fun b xs q => by rw [upd_ne (hm b _ q fun z => z)]; exact q, fun b u xs q => by rw [upd_ne (hm b _ q fun z => z)]; exact q, fun b ps q => ⟨#[], by rw [upd_ne (hm b _ q fun z => z), q]; simp⟩⟩
  by_cases hbe : b = e
  · subst hbe; exact heo
  · exact ⟨u, k b u hbe q⟩
end
noncomputable def trk (h : Heap) (H : Hp) : List Addr := (List.range h.objs.size).filter fun a => (H a).isSome
noncomputable def hidT (h : Heap) (H : Hp) : Heap := PySem.W.hideAll h (trk h H)
theorem hidT_size (h : Heap) (H : Hp) : (hidT h H).objs.size = h.objs.size := PySem.W.hideAll_size _ _
theorem hidT_get {h : Heap} {H : Hp} {b : Addr} {o : Obj} (e : h.get? b = some o) (n : H b = none) : (hidT h H).get? b = some o :=
  PySem.W.hideAll_get _ e fun hm => by
    have q : (H b).isSome = true := (List.mem_filter.mp hm).2
    rw [n] at q; simp at q
theorem of_hidT {h : Heap} {H : Hp} {b : Addr} {o : Obj} (e : (hidT h H).get? b = some o) : h.get? b = some o ∧ H b = none := by
  have e' : h.get? b = some o := PySem.W.of_hideAll (trk h H) e
  refine ⟨e', ?_⟩
  cases q : H b with
  | none => rfl
  | some x =>
    have hm : b ∈ trk h H := List.mem_filter.mpr ⟨List.mem_range.mpr (Heap.lt_size e'), by simp [q]⟩
    have z : (hidT h H).get? b = none := PySem.W.hideAll_none (trk h H) hm
    rw [z] at e; cases e
noncomputable def allNews (g h : Heap) (L : Addr) : List (Addr × Obj) := (List.range h.objs.size).filterMap fun a => if a = L ∨ (g.get? a).isSome = true then none else (h.get? a).map fun o => (a, o)
noncomputable def rest (g h : Heap) (L d : Addr) : List (Addr × Obj) := (allNews g h L).filter fun p => decide (p.1 ≠ d)
end L2
namespace L2
open PySem PySem.Spec PyProof.Rows
structure Mod (K : PySem.W.Frag) (mg : Str → Option Value) (base : Heap) : Prop where
  kin : K.In base
  glob : base.Ns mainGlobals mg
  blt : ∃ mb, base.Ns builtinsNs mb ∧ ∀ x : Str, x ≠ "__name__" → mb x = bootBuiltins x
  nolimit : base.NoLimit
structure Cx where
  prog : Program
  w : World
  K : PySem.W.Frag
  mg : Str → Option Value
  base : Heap
  A : Around
  N : List Str
  s₀ : Shared
  H₀ : Hp
  env : Env
  outer : List Env
  stack : List Env
  ex : List Addr
  fn : Str → Bool
  calm : Bool
  pn : List (Addr × Obj)
  xe : Value → Shared → Prop
noncomputable def frs (l : List Env) : List Addr := l.filterMap (·.frame)
noncomputable abbrev Cx.fs (X : Cx) : List Addr := frs X.outer
noncomputable def Vis (sc : Scope) (x : Str) : Prop := sc.names.lookup x = some .local ∨ sc.names.lookup x = some .cell ∨ sc.names.lookup x = some .free
noncomputable def Loc (sc : Scope) (x : Str) : Prop := sc.names.lookup x = some .local ∨ sc.names.lookup x = some .cell
noncomputable def Look (env : Env) (h : Heap) (m : Str → Option Value) (x : Str) (u : Value) : Prop :=
  (env.kindOf x = some .local ∧ m x = some u) ∨ ((env.kindOf x = some .cell ∨ env.kindOf x = some .free) ∧ ∃ c, env.cells.lookup x = some c ∧ h.IsCell c (some u))
structure Cx.Ok (X : Cx) : Prop where
  mod : Mod X.K X.mg X.base
  kind : X.env.scope.kind = .function
  glob : X.env.globals = mainGlobals
  blt : X.env.builtins = builtinsNs
  above : X.s₀.heap.objs.size ≤ X.env.locals
  inj : ∀ x y c, X.env.cells.lookup x = some c → X.env.cells.lookup y = some c → x = y
  has : ∀ x, (X.env.kindOf x = some .cell ∨ X.env.kindOf x = some .free) → ∃ c, X.env.cells.lookup x = some c
  cab : ∀ x c, X.fn x = true → X.env.cells.lookup x = some c → X.s₀.heap.objs.size ≤ c
  hd : X.calm = true → X.A.handled = none
  frames : X.A.frames = some X.stack
  stk : X.stack = X.outer ∨ (X.stack = X.env :: X.outer ∧ X.env.frame = some X.env.locals)
  exf : ∀ b ∈ X.ex, b ≠ X.env.locals ∧ ∀ x c, X.env.cells.lookup x = some c → c ≠ b
  bs : ∀ b o, X.base.get? b = some o → X.s₀.heap.get? b = some o ∧ X.H₀ b = none
  bsz : X.base.objs.size ≤ X.s₀.heap.objs.size
  noex : ∀ b o, X.base.get? b = some o → b ∉ X.ex
  exfs : ∀ b ∈ X.ex, b ∉ X.fs
  funs : X.s₀.heap.FunFrames X.base X.outer
  frf : ∀ b ∈ X.fs, X.H₀ b = none
structure Inv (X : Cx) (pins : List (Addr × Obj)) (σ : List (Option V)) (H : Hp) (s : Shared) : Prop where
  ok : X.Ok
  os : s.os = X.s₀.os
  bare : AllBare s.gens
  base : Un X.fs X.ex X.H₀ H X.s₀.heap s.heap
  loc : ∃ m, s.heap.Ns X.env.locals m ∧ ∀ (i : Nat) (x : Str) (v : V), X.N[i]? = some x → σ[i]? = some (some v) → Vis X.env.scope x → ∃ u, RelV v u ∧ Look X.env s.heap m x u
  cell : ∀ x c, X.env.cells.lookup x = some c → ∃ v, s.heap.IsCell c v
  free : H X.env.locals = none
  freeC : ∀ x c, X.env.cells.lookup x = some c → H c = none
  pin : ∀ p ∈ X.pn ++ pins, s.heap.get? p.1 = some p.2 ∧ H p.1 = none ∧ p.1 ≠ X.env.locals ∧ p.1 ∉ X.fs ∧ ∀ v, p.2.data ≠ .cell v
  hok : HOk X.prog X.w H s.heap
  len : σ.length = X.N.length
section
variable {X : Cx} {pins : List (Addr × Obj)} {σ : List (Option V)} {H H' : Hp} {s : Shared} {h' : Heap}
theorem Cx.Ok.nofr (ok : X.Ok) {b : Addr} {o : Obj} (e : X.base.get? b = some o) : b ∉ X.fs := fun hb => by
  have := (ok.funs.mem hb).1
  rw [e] at this; cases this
theorem Inv.bs (I : Inv X pins σ H s) : ∀ b o, X.base.get? b = some o → s.heap.get? b = some o ∧ H b = none := fun b o e =>
  ⟨I.base.keep b o (I.ok.bs b o e).1 (I.ok.bs b o e).2 (I.ok.nofr e) (I.ok.noex b o e), I.base.free b o (I.ok.bs b o e).1 (I.ok.bs b o e).2 (I.ok.noex b o e)⟩
theorem Inv.bk (I : Inv X pins σ H s) : ∀ b o, X.base.get? b = some o → s.heap.get? b = some o := fun b o e => (I.bs b o e).1
theorem Inv.mod (I : Inv X pins σ H s) : Mod X.K X.mg X.base := I.ok.mod
theorem Inv.kIn (I : Inv X pins σ H s) : X.K.In s.heap := I.ok.mod.kin.keeps I.bk
theorem Inv.lt (I : Inv X pins σ H s) : X.env.locals < s.heap.objs.size := let ⟨_, hn, _⟩ := I.loc; hn.lt
theorem Inv.sz (I : Inv X pins σ H s) : X.s₀.heap.objs.size ≤ s.heap.objs.size := Nat.le_trans I.ok.above (Nat.le_of_lt I.lt)
theorem Inv.nofs (I : Inv X pins σ H s) {a : Addr} (h : s.heap.objs.size ≤ a) : a ∉ X.fs := fun hb => by
  obtain ⟨_, o, ho, _⟩ := I.ok.funs.mem hb
  exact absurd (Nat.lt_of_lt_of_le (Heap.lt_size ho) (Nat.le_trans I.sz h)) (Nat.lt_irrefl _)
theorem Inv.cne (I : Inv X pins σ H s) : ∀ x c, X.env.cells.lookup x = some c → c ≠ X.env.locals := fun x c e z => by
  obtain ⟨v, o, ho, hd⟩ := I.cell x c e
  obtain ⟨m, ⟨o', es, ep, ho', hd', _⟩, _⟩ := I.loc
  rw [z, ho'] at ho; cases ho; rw [hd'] at hd; cases hd
theorem Inv.funs (I : Inv X pins σ H s) : s.heap.FunFrames X.base X.outer := by
  have all : ∀ (l : List Env), (∀ b ∈ frs l, b ∈ X.fs) → X.s₀.heap.FunFrames X.base l → s.heap.FunFrames X.base l := by
    intro l
    induction l with
    | nil => intro _ _; trivial
    | cons env r ih =>
      intro hs hl
      obtain ⟨hk, ⟨L, o, hf, hn, ho, hd⟩, hr⟩ := hl
      have hL : L ∈ X.fs := hs L (by unfold frs; rw [List.filterMap_cons, hf]; exact List.mem_cons_self)
      obtain ⟨sl, e⟩ := I.base.slot L o ho (I.ok.frf L hL) hL fun z => I.ok.exfs L z hL
      exact ⟨hk, ⟨L, _, hf, hn, e, hd⟩, ih (fun b hb => hs b (by unfold frs; rw [List.filterMap_cons, hf]; exact List.mem_cons_of_mem _ hb)) hr⟩
  exact all X.outer (fun _ hb => hb) I.ok.funs
theorem Inv.stack (I : Inv X pins σ H s) : s.heap.FunFrames X.base X.stack := by
  rcases I.ok.stk with e | ⟨e, hf⟩
  · rw [e]; exact I.funs
  · rw [e]
    obtain ⟨m, hn, _⟩ := I.loc
    refine .cons (by rw [I.ok.kind]; decide) hf hn ?_ I.funs
    exact Heap.get?_none_of_le (Nat.le_trans I.ok.bsz I.ok.above)
theorem Inv.stkSub (I : Inv X pins σ H s) : ∀ b ∈ frs X.stack, b ∈ X.env.locals :: X.fs := fun b hb => by
  rcases I.ok.stk with e | ⟨e, hf⟩
  · rw [e] at hb; exact List.mem_cons_of_mem _ hb
  · rw [e] at hb
    unfold frs at hb
    rw [List.filterMap_cons, hf] at hb
    exact hb
theorem Inv.stkFree (I : Inv X pins σ H s) : ∀ b ∈ frs X.stack, H b = none := fun b hb => by
  rcases List.mem_cons.mp (I.stkSub b hb) with e | hb
  · rw [e]; exact I.free
  · obtain ⟨_, o, ho, _⟩ := I.ok.funs.mem hb
    exact I.base.free b o ho (I.ok.frf b hb) fun z => I.ok.exfs b z hb
theorem Inv.step {g' : Array GenState} {t' : Nat} {d' : Drawn} {ch : List Addr} (I : Inv X pins σ H s)
    (hch : ∀ b ∈ ch, (b ∈ X.ex ∨ X.s₀.heap.objs.size ≤ b) ∧ b ≠ X.env.locals ∧ (∀ x c, X.env.cells.lookup x = some c → c ≠ b) ∧ ∀ p ∈ X.pn ++ pins, p.1 ≠ b)
    (keep : ∀ b o, b ≠ X.env.locals → b ∉ X.fs → b ∉ ch → s.heap.get? b = some o → H b = none → h'.get? b = some o)
    (slot : ∀ b o, b ≠ X.env.locals → b ∈ X.fs → b ∉ ch → s.heap.get? b = some o → H b = none → ∃ sl, h'.get? b = some { o with slots := sl }) (free : ∀ b o, b ∉ ch → s.heap.get? b = some o → H b = none → H' b = none)
    (there : ∀ b o, b ∉ ch → s.heap.get? b = some o → ∃ o', h'.get? b = some o')
    (tups : ∀ b xs, H b = some (.tup xs) → H' b = some (.tup xs)) (frzs : ∀ b o u, H b = some (.frz o u) → H' b = some (.frz o u)) (tbls : ∀ b ps, H b = some (.tbl ps) → ∃ more, H' b = some (.tbl (ps ++ more)))
    (ns : ∀ m, s.heap.Ns X.env.locals m → h'.Ns X.env.locals m) (hok : HOk X.prog X.w H' h') (hg : AllBare g') :
    Inv X pins σ H' { s with heap := h', gens := g', drawn := d', toks := t' } := by
  have neL : ∀ b o, X.s₀.heap.get? b = some o → b ≠ X.env.locals := fun b o e => Nat.ne_of_lt (Nat.lt_of_lt_of_le (Heap.lt_size e) I.ok.above)
  have neC : ∀ b o, X.s₀.heap.get? b = some o → b ∉ X.ex → b ∉ ch := fun b o e hx hb => by
    rcases (hch b hb).1 with z | z
    · exact hx z
    · exact absurd (Nat.lt_of_lt_of_le (Heap.lt_size e) z) (Nat.lt_irrefl _)
  have cellK : ∀ x c, X.env.cells.lookup x = some c → ∀ v, s.heap.IsCell c v → h'.IsCell c v := fun x c e v ⟨o, ho, hd⟩ => by
    have nch : c ∉ ch := fun z => (hch c z).2.2.1 x c e rfl
    by_cases hc : c ∈ X.fs
    · obtain ⟨sl, q⟩ := slot c o (I.cne x c e) hc nch ho (I.freeC x c e)
      exact ⟨_, q, hd⟩
    · exact ⟨o, keep c o (I.cne x c e) hc nch ho (I.freeC x c e), hd⟩
  refine ⟨I.ok, I.os, hg, ⟨fun b o e n hb hx => ?_, fun b o e n hb hx => ?_, fun b o e n hx => ?_, fun b o e hx => ?_, fun b xs e => tups b xs (I.base.tups b xs e), fun b o xs e => frzs b o xs (I.base.frzs b o xs e), fun b ps e => ?_⟩, ?_, fun x c e => ?_, ?_, fun x c e => ?_, fun p hp => ?_, hok, I.len⟩
  · exact keep b o (neL b o e) hb (neC b o e hx) (I.base.keep b o e n hb hx) (I.base.free b o e n hx)
  · obtain ⟨sl, e1⟩ := I.base.slot b o e n hb hx
    obtain ⟨sl', e2⟩ := slot b _ (neL b o e) hb (neC b o e hx) e1 (I.base.free b o e n hx)
    exact ⟨sl', e2⟩
  · obtain ⟨o', e1⟩ := I.base.there b o e hx
    exact free b o' (neC b o e hx) e1 (I.base.free b o e n hx)
  · obtain ⟨o', e1⟩ := I.base.there b o e hx
    exact there b o' (neC b o e hx) e1
  · obtain ⟨m1, e1⟩ := I.base.tbls b ps e
    obtain ⟨m2, e2⟩ := tbls b _ e1
    exact ⟨m1 ++ m2, by rw [e2, Array.append_assoc]⟩
  · obtain ⟨m, hn, hl⟩ := I.loc
    refine ⟨m, ns m hn, fun i x v e1 e2 e3 => ?_⟩
    obtain ⟨u, r, l⟩ := hl i x v e1 e2 e3
    refine ⟨u, r, ?_⟩
    rcases l with l | ⟨k, c, e, z⟩
    · exact .inl l
    · exact .inr ⟨k, c, e, cellK x c e _ z⟩
  · obtain ⟨v, z⟩ := I.cell x c e
    exact ⟨v, cellK x c e v z⟩
  · obtain ⟨m, ⟨o, _, _, ho, _⟩, _⟩ := I.loc
    exact free _ o (fun z => (hch _ z).2.1 rfl) ho I.free
  · obtain ⟨v, o, ho, hd⟩ := I.cell x c e
    exact free c o (fun z => (hch c z).2.2.1 x c e rfl) ho (I.freeC x c e)
  · obtain ⟨e, n, ne, nf, d⟩ := I.pin p hp
    have nch : p.1 ∉ ch := fun z => (hch p.1 z).2.2.2 p hp rfl
    exact ⟨keep p.1 p.2 ne nf nch e n, free p.1 p.2 nch e n, ne, nf, d⟩
theorem Inv.un {t' : Nat} (I : Inv X pins σ H s) (u : Un X.fs [] H H' s.heap h') (hok : HOk X.prog X.w H' h') : Inv X pins σ H' { s with heap := h', toks := t' } := by
  obtain ⟨m, ⟨o, es, ep, ho, r⟩, _⟩ := id I.loc
  obtain ⟨sl, hL⟩ := u.any ho I.free (by simp)
  exact I.step (g' := s.gens) (d' := s.drawn) (ch := []) (fun _ z => nomatch z) (fun b o _ hb _ e n => u.keep b o e n hb (by simp)) (fun b o _ hb _ e n => u.slot b o e n hb (by simp)) (fun b o _ e n => u.free b o e n (by simp)) (fun b o _ e => u.there b o e (by simp)) u.tups u.frzs u.tbls (fun m' hm => by
    obtain ⟨o', es', ep', ho', r'⟩ := hm
    rw [ho] at ho'; cases ho'
    exact ⟨_, es', ep', hL, r'⟩) hok I.bare
theorem Inv.call {g' : Array GenState} {t' : Nat} {d' : Drawn} {ch : List Addr} (I : Inv X pins σ H s) (u : Un (frs X.stack) ch H H' s.heap h') (hok : HOk X.prog X.w H' h') (hg : AllBare g')
    (hch : ∀ b ∈ ch, (b ∈ X.ex ∨ X.s₀.heap.objs.size ≤ b) ∧ b ≠ X.env.locals ∧ (∀ x c, X.env.cells.lookup x = some c → c ≠ b) ∧ ∀ p ∈ X.pn ++ pins, p.1 ≠ b) :
    Inv X pins σ H' { s with heap := h', gens := g', drawn := d', toks := t' } := by
  obtain ⟨m, ⟨o, es, ep, ho, r⟩, _⟩ := id I.loc
  obtain ⟨sl, hL⟩ := u.any ho I.free fun z => (hch _ z).2.1 rfl
  exact I.step (ch := ch) hch (fun b o hL hb hc e n => u.keep b o e n (fun z => (List.mem_cons.mp (I.stkSub b z)).elim hL hb) hc) (fun b o _ _ hc e n => u.any e n hc) (fun b o hc e n => u.free b o e n hc) (fun b o hc e => u.there b o e hc) u.tups u.frzs u.tbls (fun m' hm => by
    obtain ⟨o', es', ep', ho', r'⟩ := hm
    rw [ho] at ho'; cases ho'
    exact ⟨_, es', ep', hL, r'⟩) hok hg
theorem Inv.turned {t' : Nat} {it : Addr} (I : Inv X pins σ H s) (k : ∀ b o, b ≠ it → s.heap.get? b = some o → h'.get? b = some o) (hn : H it = none) (hL : it ≠ X.env.locals)
    (h1 : it ∈ X.ex ∨ X.s₀.heap.objs.size ≤ it) (h2 : ∀ x c, X.env.cells.lookup x = some c → c ≠ it) (h3 : ∀ p ∈ X.pn ++ pins, p.1 ≠ it) : Inv X pins σ H { s with heap := h', toks := t' } := by
  have nit : ∀ b u, H b = some u → b ≠ it := fun b u e z => by rw [z, hn] at e; cases e
  refine I.step (g' := s.gens) (d' := s.drawn) (ch := [it]) (fun b hb => ?_) (fun b o _ _ hc e _ => k b o (fun z => hc (by simp [z])) e) (fun b o _ _ hc e _ => ⟨o.slots, k b o (fun z => hc (by simp [z])) e⟩) (fun _ _ _ _ n => n)
    (fun b o hc e => ⟨o, k b o (fun z => hc (by simp [z])) e⟩) (fun _ _ e => e) (fun _ _ _ e => e) (fun b ps e => ⟨#[], by rw [e]; simp⟩) (fun m hm => ?_) (fun b u e => ?_) I.bare
  · have e : b = it := by simpa using hb
    subst e
    exact ⟨h1, hL, h2, h3⟩
  · obtain ⟨o, es, ep, ho, r⟩ := hm
    exact ⟨o, es, ep, k _ o (Ne.symm hL) ho, r⟩
  · refine (I.hok b u e).stay (fun c v hc q => k c v ?_ q) (fun _ q => q) fun _ _ q => q
    rcases hc with z | z
    · rw [z]; exact nit b u e
    · exact nit c _ z
theorem Inv.tok (I : Inv X pins σ H s) (t : Nat) : Inv X pins σ H { s with toks := t } := I.un (h' := s.heap) (t' := t) Un.refl I.hok
theorem Inv.kept {t' : Nat} (I : Inv X pins σ H s) (k : ∀ b u, s.heap.get? b = some u → h'.get? b = some u) : Inv X pins σ H { s with heap := h', toks := t' } := I.un (Un.kept k) (I.hok.kept k)
theorem Inv.laid {a : Addr} {o : HO} {t' : Nat} (I : Inv X pins σ H s) (k : ∀ b u, s.heap.get? b = some u → h'.get? b = some u) (hp : s.heap.objs.size ≤ a) (new : ObjOk X.prog X.w (upd H a o) h' a o) :
    Inv X pins σ (upd H a o) { s with heap := h', toks := t' } := I.un (Un.laid k hp (I.hok.fresh hp)) (I.hok.laid k hp new)
theorem Inv.write {x e : Addr} {o : HO} {t' : Nat} (I : Inv X pins σ H s) (mu : Mut (H x)) (he : e = x ∨ H e = some (.own x)) (k : ∀ b u, b ≠ e → s.heap.get? b = some u → h'.get? b = some u) (heo : ∃ u, h'.get? e = some u)
    (new : ObjOk X.prog X.w (upd H x o) h' x o) : Inv X pins σ (upd H x o) { s with heap := h', toks := t' } := I.un (Un.write mu he k heo) (I.hok.write mu he k heo new)
theorem Inv.pins_of {pins' : List (Addr × Obj)} (I : Inv X pins σ H s) (h : ∀ p ∈ pins', s.heap.get? p.1 = some p.2 ∧ H p.1 = none ∧ p.1 ≠ X.env.locals ∧ p.1 ∉ X.fs ∧ ∀ v, p.2.data ≠ .cell v) : Inv X pins' σ H s :=
  ⟨I.ok, I.os, I.bare, I.base, I.loc, I.cell, I.free, I.freeC, fun p hp => (List.mem_append.mp hp).elim (fun z => I.pin p (List.mem_append_left _ z)) (h p), I.hok, I.len⟩
theorem nodup_ix {N : List Str} (hN : N.Nodup) {i j : Nat} {x : Str} (a : N[i]? = some x) (b : N[j]? = some x) : i = j := by
  obtain ⟨h1, e1⟩ := List.getElem?_eq_some_iff.mp a
  obtain ⟨h2, e2⟩ := List.getElem?_eq_some_iff.mp b
  exact (List.getElem_inj hN).mp (e1.trans e2.symm)
theorem store_ok2 {M : Model} {A : Around} {E : Value → Shared → Prop} {i : Nat} {x : Str} {v : V} {u : Value} {Q : Unit → Shared → Prop} (I : Inv X pins σ H s) (hN : X.N.Nodup) (hi : X.N[i]? = some x) (hx : Loc X.env.scope x) (r : RelV v u)
    (h : ∀ s', Inv X pins (σ.set i (some v)) H s' → (∃ a, Heap.SameBut a s.heap s'.heap ∧ (a = X.env.locals ∨ X.env.cells.lookup x = some a)) → Q () s') (hf : X.fn x = true ∨ X.env.scope.names.lookup x = some .local := by first | exact .inl rfl | exact .inr rfl | assumption) : wpAny M A (storeName X.env x u) Q E s := by
  obtain ⟨m, hn, hl⟩ := id I.loc
  have hcls : (X.env.scope.kind == .class || (X.env.scope.kind == .module && X.env.locals != X.env.globals)) = false := by rw [I.ok.kind]; rfl
  have hiσ : i < σ.length := by rw [I.len]; exact (List.getElem?_eq_some_iff.mp hi).1
  have cne := I.cne
  have tracked : ∀ {a : Addr} {h' : Heap}, (∃ o, s.heap.get? a = some o ∧ H a = none) → Heap.SameBut a s.heap h' → HOk X.prog X.w H h' := fun {a h'} ha hs b ob e => by
    obtain ⟨_, _, hfree⟩ := ha
    refine (I.hok b ob e).stay (fun c w' hc q => (hs.2 c ?_).trans q) (fun _ q => q) fun _ _ q => q
    rintro rfl
    rcases hc with rfl | hc
    · rw [hfree] at e; cases e
    · rw [hfree] at hc; cases hc
  rcases hx with hk | hk
  · refine wpAny_storeName_local hk hn (fun h' hn' hs => ?_) hcls
    obtain ⟨oL, _, _, hoL, _⟩ := id hn
    refine h _ ⟨I.ok, I.os, I.bare, ⟨fun b o e n hb hx => ?_, fun b o e n hb hx => ?_, I.base.free, fun b o e hx => ?_, I.base.tups, I.base.frzs, I.base.tbls⟩, ⟨_, hn', fun j y v' e1 e2 e3 => ?_⟩, fun y c e => ?_, I.free, I.freeC, fun p hp => ?_, tracked ⟨oL, hoL, I.free⟩ hs, by simpa using I.len⟩ ⟨_, hs, .inl rfl⟩
    · exact (hs.2 b (Nat.ne_of_lt (Nat.lt_of_lt_of_le (Heap.lt_size e) I.ok.above))).trans (I.base.keep b o e n hb hx)
    · obtain ⟨sl, e1⟩ := I.base.slot b o e n hb hx
      exact ⟨sl, (hs.2 b (Nat.ne_of_lt (Nat.lt_of_lt_of_le (Heap.lt_size e) I.ok.above))).trans e1⟩
    · obtain ⟨o', e1⟩ := I.base.there b o e hx
      exact ⟨o', (hs.2 b (Nat.ne_of_lt (Nat.lt_of_lt_of_le (Heap.lt_size e) I.ok.above))).trans e1⟩
    · by_cases hj : j = i
      · subst hj
        rw [hi] at e1; cases e1
        rw [List.getElem?_set_self hiσ] at e2
        cases e2
        exact ⟨u, r, .inl ⟨hk, by simp⟩⟩
      · rw [List.getElem?_set_ne (Ne.symm hj)] at e2
        obtain ⟨u', r', q⟩ := hl j y v' e1 e2 e3
        refine ⟨u', r', ?_⟩
        rcases q with ⟨k, e⟩ | ⟨k, c, e, z⟩
        · refine .inl ⟨k, ?_⟩
          have : y ≠ x := fun e => hj (nodup_ix hN e1 (e ▸ hi))
          simp [this, e]
        · exact .inr ⟨k, c, e, z.sameBut hs (cne y c e)⟩
    · obtain ⟨w', z⟩ := I.cell y c e
      exact ⟨w', z.sameBut hs (cne y c e)⟩
    · obtain ⟨e, n, ne, nf, d⟩ := I.pin p hp
      exact ⟨(hs.2 p.1 ne).trans e, n, ne, nf, d⟩
  · have hfn : X.fn x = true := by
      rcases hf with z | z
      · exact z
      · rw [z] at hk; cases hk
    obtain ⟨c, hc⟩ := I.ok.has x (.inl hk)
    obtain ⟨w', z⟩ := I.cell x c hc
    refine wpAny_storeName_cell I.ok.kind hk hc z (fun h' hc' hs => ?_)
    obtain ⟨oc, hoc, hocd⟩ := id z
    refine h { s with heap := h' } ⟨I.ok, I.os, I.bare, ⟨fun b o e n hb hx => ?_, fun b o e n hb hx => ?_, I.base.free, fun b o e hx => ?_, I.base.tups, I.base.frzs, I.base.tbls⟩, ⟨m, hn.sameBut hs (Ne.symm (cne x c hc)), fun j y v' e1 e2 e3 => ?_⟩, fun y c' e => ?_, I.free, I.freeC, fun p hp => ?_, tracked ⟨oc, hoc, I.freeC x c hc⟩ hs, by simpa using I.len⟩ ⟨c, hs, .inr hc⟩
    · exact (hs.2 b (Nat.ne_of_lt (Nat.lt_of_lt_of_le (Heap.lt_size e) (I.ok.cab x c hfn hc)))).trans (I.base.keep b o e n hb hx)
    · obtain ⟨sl, e1⟩ := I.base.slot b o e n hb hx
      exact ⟨sl, (hs.2 b (Nat.ne_of_lt (Nat.lt_of_lt_of_le (Heap.lt_size e) (I.ok.cab x c hfn hc)))).trans e1⟩
    · obtain ⟨o', e1⟩ := I.base.there b o e hx
      exact ⟨o', (hs.2 b (Nat.ne_of_lt (Nat.lt_of_lt_of_le (Heap.lt_size e) (I.ok.cab x c hfn hc)))).trans e1⟩
    · by_cases hj : j = i
      · subst hj
        rw [hi] at e1; cases e1
        rw [List.getElem?_set_self hiσ] at e2
        cases e2
        exact ⟨u, r, .inr ⟨.inl hk, c, hc, hc'⟩⟩
      · rw [List.getElem?_set_ne (Ne.symm hj)] at e2
        obtain ⟨u', r', q⟩ := hl j y v' e1 e2 e3
        refine ⟨u', r', ?_⟩
        rcases q with q | ⟨k, c', e, z'⟩
        · exact .inl q
        · refine .inr ⟨k, c', e, z'.sameBut hs ?_⟩
          rintro rfl
          exact hj (nodup_ix hN e1 (I.ok.inj _ _ _ e hc ▸ hi))
    · by_cases hcc : c' = c
      · subst hcc; exact ⟨_, hc'⟩
      · obtain ⟨w2, z2⟩ := I.cell y c' e
        exact ⟨w2, z2.sameBut hs hcc⟩
    · obtain ⟨e, n, ne, nf, d⟩ := I.pin p hp
      refine ⟨(hs.2 p.1 ?_).trans e, n, ne, nf, d⟩
      intro q
      rw [q, hoc] at e
      have q' : oc = p.2 := Option.some.inj e
      exact d w' (by rw [← q']; exact hocd)
theorem store_ok {M : Model} {A : Around} {E : Value → Shared → Prop} {i : Nat} {x : Str} {v : V} {u : Value} {Q : Unit → Shared → Prop} (I : Inv X pins σ H s) (hN : X.N.Nodup) (hi : X.N[i]? = some x) (hx : Loc X.env.scope x) (r : RelV v u)
    (h : ∀ s', Inv X pins (σ.set i (some v)) H s' → Q () s') (hf : X.fn x = true ∨ X.env.scope.names.lookup x = some .local := by first | exact .inl rfl | exact .inr rfl | assumption) : wpAny M A (storeName X.env x u) Q E s :=
  store_ok2 I hN hi hx r (fun s' I' _ => h s' I') hf
theorem Inv.call' {s' : Shared} {ch : List Addr} (I : Inv X pins σ H s) (ho : s'.os = s.os) (u : Un (frs X.stack) ch H H' s.heap s'.heap) (hok : HOk X.prog X.w H' s'.heap) (hg : AllBare s'.gens)
    (hch : ∀ b ∈ ch, (b ∈ X.ex ∨ X.s₀.heap.objs.size ≤ b) ∧ b ≠ X.env.locals ∧ (∀ x c, X.env.cells.lookup x = some c → c ≠ b) ∧ ∀ p ∈ X.pn ++ pins, p.1 ≠ b) : Inv X pins σ H' s' := by
  obtain ⟨h', g', d', t', o'⟩ := s'
  have e : o' = s.os := ho
  subst e
  exact I.call (g' := g') (t' := t') (d' := d') u hok hg hch
end
noncomputable abbrev XK := Value → Option Addr → Hp → Prop
noncomputable abbrev St := List (Option V)
noncomputable abbrev VK := V → Hp → Prop
noncomputable abbrev TE := St → Hp → VK → Prop
noncomputable abbrev TT := St → Hp → (Bool → Hp → Prop) → Prop
noncomputable abbrev TA := St → Hp → (List V → Hp → Prop) → Prop
structure Ends where
  nx : St → Hp → Prop
  rt : VK
  bk : St → Hp → Prop := fun _ _ => False
  ct : St → Hp → Prop := fun _ _ => False
noncomputable abbrev TS := Ends → St → Hp → Prop
noncomputable def EP (X : Cx) (pins : List (Addr × Obj)) (σ : St) (Q : VK) (u : Value) (s' : Shared) : Prop := ∃ v H', Inv X pins σ H' s' ∧ RelV v u ∧ Q v H'
noncomputable def TP (X : Cx) (pins : List (Addr × Obj)) (σ : St) (Q : Bool → Hp → Prop) (b : Bool) (s' : Shared) : Prop := ∃ H', Inv X pins σ H' s' ∧ Q b H'
noncomputable def AP (X : Cx) (pins : List (Addr × Obj)) (σ : St) (Q : List V → Hp → Prop) (us : List Value) (s' : Shared) : Prop := ∃ vs H', Inv X pins σ H' s' ∧ Vals vs us ∧ Q vs H'
noncomputable def SP (X : Cx) (pins : List (Addr × Obj)) (D : Ends) (f : Flow) (s' : Shared) : Prop :=
  match f with
  | .next => ∃ σ' H', Inv X pins σ' H' s' ∧ D.nx σ' H'
  | .brk => ∃ σ' H', Inv X pins σ' H' s' ∧ D.bk σ' H'
  | .cont => ∃ σ' H', Inv X pins σ' H' s' ∧ D.ct σ' H'
  | .ret u => ∃ v σ' H', Inv X pins σ' H' s' ∧ RelV v u ∧ D.rt v H'
noncomputable def PE (X : Cx) (e : Expr) (t : TE) : Prop :=
  ∀ (pins : List (Addr × Obj)) (s : Shared) (σ : St) (H : Hp) (Q : VK), Inv X pins σ H s → t σ H Q → wpAny (model X.prog X.w) X.A (eval e X.env) (EP X pins σ Q) X.xe s
noncomputable def PT (X : Cx) (e : Expr) (t : TT) : Prop :=
  ∀ (pins : List (Addr × Obj)) (s : Shared) (σ : St) (H : Hp) (Q : Bool → Hp → Prop), Inv X pins σ H s → t σ H Q → wpAny (model X.prog X.w) X.A (isTrue e X.env (eval e X.env)) (TP X pins σ Q) X.xe s
noncomputable def PW (X : Cx) (e : Expr) (t : TT) : Prop :=
  ∀ (whole : Sem Value) (pins : List (Addr × Obj)) (s : Shared) (σ : St) (H : Hp) (Q : Bool → Hp → Prop), Inv X pins σ H s → t σ H Q → wpAny (model X.prog X.w) X.A (isTrue e X.env whole) (TP X pins σ Q) X.xe s
theorem PW.pt {X : Cx} {e : Expr} {t : TT} (h : PW X e t) : PT X e t := h _
noncomputable def PA (X : Cx) (es : List Expr) (t : TA) : Prop :=
  ∀ (pos : Pos) (pins : List (Addr × Obj)) (s : Shared) (σ : St) (H : Hp) (Q : List V → Hp → Prop), Inv X pins σ H s → t σ H Q → wpAny (model X.prog X.w) X.A (spliced (backTo pos (starEach es X.env))) (AP X pins σ Q) X.xe s
noncomputable def PS (X : Cx) (st : Stmt) (t : TS) : Prop :=
  ∀ (pins : List (Addr × Obj)) (s : Shared) (σ : St) (H : Hp) (D : Ends), Inv X pins σ H s → t D σ H → wpAny (model X.prog X.w) X.A (exec st X.env) (SP X pins D) X.xe s
noncomputable def PSs (X : Cx) (st : List Stmt) (t : TS) : Prop :=
  ∀ (pins : List (Addr × Obj)) (s : Shared) (σ : St) (H : Hp) (D : Ends), Inv X pins σ H s → t D σ H → wpAny (model X.prog X.w) X.A (execs st X.env) (SP X pins D) X.xe s
theorem thn {α : Type} {t : Sem α} {Q Q' : α → Shared → Prop} {M : Model} {A : Around} {E : Value → Shared → Prop} {s : Shared} (h : wpAny M A t Q E s) (hQ : ∀ a s, Q a s → Q' a s) : wpAny M A t Q' E s := wpAny_mono h hQ fun _ _ x => x
end L2
namespace L2
open PySem PySem.Spec PyProof.Rows
section
variable {X : Cx}
noncomputable def tVar (i : Nat) : TE := fun σ H Q => ∃ v, σ[i]? = some (some v) ∧ Q v H
noncomputable def tC (v : V) : TE := fun _ H Q => Q v H
theorem pe_var {i : Nat} {x : Str} {pos : Pos} (hN : X.N[i]? = some x) (hv : Vis X.env.scope x) (hd : (x == ("__debug__" : Str)) = false := by decide) (hcd : (x == ("__classdict__" : Str)) = false := by decide) : PE X (.Name x pos) (tVar i) := by
  intro pins s σ H Q I h
  obtain ⟨v, e, h⟩ := h
  obtain ⟨m, hn, hl⟩ := I.loc
  obtain ⟨u, r, l⟩ := hl i x v hN e hv
  have fin : EP X pins σ Q u s := ⟨v, H, I, r, h⟩
  rcases l with ⟨hk, hm⟩ | ⟨hk, c, hc, hcell⟩
  · exact wpAny_Name (wpAny_loadName_local I.ok.kind hk hn hm fin) hd
  · rcases hk with hk | hk
    · exact wpAny_Name (wpAny_loadName_cell I.ok.kind hk hc hcell fin) hd
    · exact wpAny_Name (wpAny_loadName_free I.ok.kind hk hc hcell fin hcd) hd
theorem pe_int {i j pos} : PE X (.Constant (.int i) j pos) (tC (.int i)) := fun _ _ _ H _ I h => wpAny_Constant_int ⟨.int i, H, I.tok _, ⟨_, rfl⟩, h⟩
theorem pe_bl {b j pos} : PE X (.Constant (.bool b) j pos) (tC (.bl b)) := fun _ _ _ H _ I h => Constant_bool ⟨.bl b, H, I, rfl, h⟩
theorem pe_non {j pos} : PE X (.Constant .none j pos) (tC .non) := fun _ _ _ H _ I h => Constant_none ⟨.non, H, I, rfl, h⟩
theorem pe_str {x j pos} : PE X (.Constant (.str x) j pos) (tC (.str x)) := fun _ _ _ H _ I h => Calls.Constant_str ⟨.str x, H, I.tok _, ⟨_, rfl⟩, h⟩
noncomputable def Gl (X : Cx) (x : Str) : Prop := X.env.kindOf x = some .globalImplicit
theorem ld_glob {E : Value → Shared → Prop} {pins : List (Addr × Obj)} {s : Shared} {σ : St} {H : Hp} {x : Str} {u : Value} {pos : Pos} {Q : Value → Shared → Prop} (I : Inv X pins σ H s) (hg : Gl X x) (hm : X.mg x = some u) (h : Q u s)
    (hd : (x == ("__debug__" : Str)) = false := by decide) : wpAny (model X.prog X.w) X.A (eval (.Name x pos) X.env) Q E s :=
  Calls.Name_function_global I.ok.kind hg (Calls.loadGlobal_global (by rw [I.ok.glob]; exact I.mod.glob.keeps I.bk) hm h) hd
theorem ld_blt {E : Value → Shared → Prop} {pins : List (Addr × Obj)} {s : Shared} {σ : St} {H : Hp} {x : Str} {u : Value} {pos : Pos} {Q : Value → Shared → Prop} (I : Inv X pins σ H s) (hg : Gl X x) (hm : X.mg x = none) (hv : bootBuiltins x = some u) (h : Q u s)
    (hn : x ≠ "__name__" := by decide) (hd : (x == ("__debug__" : Str)) = false := by decide) : wpAny (model X.prog X.w) X.A (eval (.Name x pos) X.env) Q E s := by
  obtain ⟨mb, h1, h2⟩ := I.mod.blt
  exact Calls.Name_function_global I.ok.kind hg (Calls.loadGlobal_builtin (by rw [I.ok.glob]; exact I.mod.glob.keeps I.bk) hm (by rw [I.ok.blt]; exact h1.keeps I.bk) ((h2 x hn).trans hv) h) hd
theorem pe_glob {x : Str} {v : V} {u : Value} {pos : Pos} (hg : Gl X x) (hm : X.mg x = some u) (r : RelV v u) (hd : (x == ("__debug__" : Str)) = false := by decide) : PE X (.Name x pos) (tC v) :=
  fun _ _ _ H _ I h => ld_glob I hg hm ⟨v, H, I, r, h⟩ hd
theorem pe_bltn {x : Str} {v : V} {u : Value} {pos : Pos} (hg : Gl X x) (hm : X.mg x = none) (hv : bootBuiltins x = some u) (r : RelV v u) (hn : x ≠ "__name__" := by decide) (hd : (x == ("__debug__" : Str)) = false := by decide) : PE X (.Name x pos) (tC v) :=
  fun _ _ _ H _ I h => ld_blt I hg hm hv ⟨v, H, I, r, h⟩ hn hd
variable {a b : Expr} {ta tb : TE} {pos : Pos}
noncomputable def tB (t : TE) : TT := fun σ H Q => t σ H fun x H1 => ∃ c, x = .bl c ∧ Q c H1
theorem pt_val {e : Expr} {t : TE} (h : PE X e t) (he : ∀ whole, isTrue e X.env whole = (do let v ← whole; standAt e.pos; holding [v] (truthy v)) := by intro _; rfl) : PT X e (tB t) := by
  intro pins s σ H Q I hw
  refine isTrue_plain (thn (h pins s σ H _ I hw) fun v s1 ⟨x, H1, I1, r1, q1⟩ => ?_) (he _)
  obtain ⟨d, rfl, q⟩ := q1
  cases r1
  exact wpAny_truthy_bool ⟨H1, I1, q⟩
variable {tA tB' : TT} {rest : List Expr}
noncomputable def tAnd (t u : TT) : TT := fun σ H Q => t σ H fun c H1 => if c = true then u σ H1 Q else Q false H1
noncomputable def tOr (t u : TT) : TT := fun σ H Q => t σ H fun c H1 => if c = true then Q true H1 else u σ H1 Q
noncomputable def tNot (t : TT) : TT := fun σ H Q => t σ H fun c H1 => Q (!c) H1
theorem pw_and1 (ha : PT X a tA) : PW X (.BoolOp .And [a] pos) tA := by
  intro wh pins s σ H Q I h
  refine isTrue_and (thn (ha pins s σ H Q I h) fun c s1 e => ?_)
  cases c with
  | true => exact isTrue_and_nil e
  | false => exact e
theorem pw_or1 (ha : PT X a tA) : PW X (.BoolOp .Or [a] pos) tA := by
  intro wh pins s σ H Q I h
  refine isTrue_or (thn (ha pins s σ H Q I h) fun c s1 e => ?_)
  cases c with
  | false => exact isTrue_or_nil e
  | true => exact e
theorem pw_and (ha : PT X a tA) (hb : PW X (.BoolOp .And (b :: rest) pos) tB') : PW X (.BoolOp .And (a :: b :: rest) pos) (tAnd tA tB') := by
  intro wh pins s σ H Q I h
  refine isTrue_and (thn (ha pins s σ H _ I h) fun c s1 zq1 => ?_)
  obtain ⟨H1, I1, q1⟩ := zq1
  refine ?_
  cases c with
  | true => exact hb wh pins s1 σ H1 Q I1 q1
  | false => exact ⟨H1, I1, q1⟩
theorem pw_or (ha : PT X a tA) (hb : PW X (.BoolOp .Or (b :: rest) pos) tB') : PW X (.BoolOp .Or (a :: b :: rest) pos) (tOr tA tB') := by
  intro wh pins s σ H Q I h
  refine isTrue_or (thn (ha pins s σ H _ I h) fun c s1 zq2 => ?_)
  obtain ⟨H1, I1, q1⟩ := zq2
  refine ?_
  cases c with
  | true => exact ⟨H1, I1, q1⟩
  | false => exact hb wh pins s1 σ H1 Q I1 q1
theorem pt_not (ha : PT X a tA) : PT X (.UnaryOp .Not a pos) (tNot tA) := by
  intro pins s σ H Q I h
  exact isTrue_not (ha pins s σ H (fun c H1 => Q (!c) H1) I h)
noncomputable def tAndV (ta tb : TE) : TE := fun σ H Q => ta σ H fun x H1 => ∃ c, x = .bl c ∧ if c = true then tb σ H1 Q else Q (.bl false) H1
noncomputable def tOrV (ta tb : TE) : TE := fun σ H Q => ta σ H fun x H1 => ∃ c, x = .bl c ∧ if c = true then Q (.bl true) H1 else tb σ H1 Q
noncomputable def tNotV (ta : TE) : TE := fun σ H Q => ta σ H fun x H1 => ∃ c, x = .bl c ∧ Q (.bl (!c)) H1
theorem pe_one {op} {t : TE} (h : PE X a t) : PE X (.BoolOp op [a] pos) t := fun pins s σ H Q I hw => BoolOp_one (h pins s σ H Q I hw)
theorem pe_and (ha : PE X a ta) (hb : PE X (.BoolOp .And (b :: rest) pos) tb) : PE X (.BoolOp .And (a :: b :: rest) pos) (tAndV ta tb) := by
  intro pins s σ H Q I h
  refine BoolOp_and (thn (ha pins s σ H _ I h) fun v s1 zq3 => ?_)
  obtain ⟨x, H1, I1, r1, q1⟩ := zq3
  refine ?_
  obtain ⟨c, rfl, q1⟩ := q1
  cases r1
  refine wpAny_truthy_bool ?_
  cases c with
  | true => exact hb pins s1 σ H1 Q I1 q1
  | false => exact ⟨.bl false, H1, I1, rfl, q1⟩
theorem pe_or (ha : PE X a ta) (hb : PE X (.BoolOp .Or (b :: rest) pos) tb) : PE X (.BoolOp .Or (a :: b :: rest) pos) (tOrV ta tb) := by
  intro pins s σ H Q I h
  refine BoolOp_or (thn (ha pins s σ H _ I h) fun v s1 zq4 => ?_)
  obtain ⟨x, H1, I1, r1, q1⟩ := zq4
  refine ?_
  obtain ⟨c, rfl, q1⟩ := q1
  cases r1
  refine wpAny_truthy_bool ?_
  cases c with
  | false => exact hb pins s1 σ H1 Q I1 q1
  | true => exact ⟨.bl true, H1, I1, rfl, q1⟩
theorem pe_not (ha : PE X a ta) : PE X (.UnaryOp .Not a pos) (tNotV ta) := by
  intro pins s σ H Q I h
  refine UnaryOp_ (thn (ha pins s σ H _ I h) fun v s1 zq5 => ?_)
  obtain ⟨x, H1, I1, r1, q1⟩ := zq5
  refine ?_
  obtain ⟨c, rfl, q1⟩ := q1
  cases r1
  exact not_of (wpAny_truthy_bool ⟨.bl (!c), H1, I1, rfl, q1⟩)
noncomputable def tIf (t : TT) (ta tb : TE) : TE := fun σ H Q => t σ H fun c H1 => if c = true then ta σ H1 Q else tb σ H1 Q
theorem pe_ifExp {c : Expr} (hc : PT X c tA) (ha : PE X a ta) (hb : PE X b tb) : PE X (.IfExp c a b pos) (tIf tA ta tb) := by
  intro pins s σ H Q I h
  refine wpAny_IfExp (thn (hc pins s σ H _ I h) fun d s1 zq6 => ?_)
  obtain ⟨H1, I1, q1⟩ := zq6
  refine ?_
  cases d with
  | true => exact ha pins s1 σ H1 Q I1 q1
  | false => exact hb pins s1 σ H1 Q I1 q1
end
end L2
namespace L2
open PySem PySem.Spec PyProof.Rows
noncomputable def SqL (K : PySem.W.Frag) (H : Hp) (a : Addr) (xs : List V) : Prop :=
  Rd H a (.lst xs) ∨
    ∃ (o : Obj) (its : Array Value) (n : Nat), K.lookup a = some o ∧ o.cls = .type "list" ∧ o.dict = none ∧ o.data = .seq its n ∧ its.size ≤ sizeLine ∧ Vals xs its.toList
noncomputable def SqT (K : PySem.W.Frag) (H : Hp) (a : Addr) (xs : List V) : Prop :=
  Rd H a (.tup xs) ∨
    ∃ (o : Obj) (its : Array Value) (n : Nat), K.lookup a = some o ∧ o.cls = .type "tuple" ∧ o.data = .seq its n ∧ its.size ≤ sizeLine ∧ Vals xs its.toList
noncomputable def absV : Value → Option V
  | .none => some .non
  | .bool b => some (.bl b)
  | .int i _ => some (.int i)
  | .str x _ => some (.str x)
  | .bytes b _ => some (.byt b)
  | .float b _ => some (.flt b)
  | .ref a => some (.ref a)
  | .type n => some (.ty n)
  | _ => none
theorem RelV.abs {x : V} {u : Value} (r : RelV x u) : absV u = some x := by
  cases x with
  | non => cases r; rfl
  | bl _ => cases r; rfl
  | int _ => obtain ⟨t, rfl⟩ := r; rfl
  | str _ => obtain ⟨t, rfl⟩ := r; rfl
  | byt _ => obtain ⟨t, rfl⟩ := r; rfl
  | flt _ => obtain ⟨t, rfl⟩ := r; rfl
  | ref _ => cases r; rfl
  | ty _ => cases r; rfl
theorem RelV.inj {x y : V} {u : Value} (r : RelV x u) (q : RelV y u) : x = y := Option.some.inj (r.abs.symm.trans q.abs)
theorem Vals.inj {xs ys : List V} {us : List Value} (h : Vals xs us) (h' : Vals ys us) : xs = ys := by
  induction h generalizing ys with
  | nil => cases h'; rfl
  | cons r t ih => cases h' with | cons r' t' => rw [r.inj r', ih t']
section
variable {X : Cx} {pins : List (Addr × Obj)} {σ : St} {H : Hp} {s : Shared} {a : Addr} {xs ys : List V}
theorem SqL.of {K : PySem.W.Frag} (h : H a = some (.lst xs)) : SqL K H a xs := .inl (.inl h)
theorem SqT.of {K : PySem.W.Frag} (h : H a = some (.tup xs)) : SqT K H a xs := .inl (.inl h)
theorem Inv.list (I : Inv X pins σ H s) (h : SqL X.K H a xs) : ∃ its : List Value, Vals xs its ∧ PlainL s.heap a its.toArray ∧ xs.length ≤ sizeLine := by
  rcases h with h | ⟨o, its, n, hk, hc, hd, hs, hz, r⟩
  · obtain ⟨z, its, n, r, e⟩ := h.ok I.hok
    exact ⟨its, r, ⟨_, n, e, rfl, rfl, rfl⟩, z⟩
  · refine ⟨its.toList, r, ⟨o, n, I.kIn a o hk, hc, hd, by simpa using hs⟩, ?_⟩
    have e := r.length
    simp only [Array.length_toList] at e
    omega
theorem Inv.tuple (I : Inv X pins σ H s) (h : SqT X.K H a xs) : ∃ its : List Value, Vals xs its ∧ IsTup s.heap a its.toArray ∧ xs.length ≤ sizeLine := by
  rcases h with h | ⟨o, its, n, hk, hc, hs, hz, r⟩
  · obtain ⟨z, its, r, p⟩ := h.ok I.hok
    exact ⟨its, r, p, z⟩
  · refine ⟨its.toList, r, ⟨o, I.kIn a o hk, hc, n, by simpa using hs⟩, ?_⟩
    have e := r.length
    simp only [Array.length_toList] at e
    omega
theorem Inv.list_inj (I : Inv X pins σ H s) (h : SqL X.K H a xs) (h' : SqL X.K H a ys) : xs = ys := by
  obtain ⟨its, r, ⟨o, n, e, _, _, d⟩, _⟩ := I.list h
  obtain ⟨its', r', ⟨o', n', e', _, _, d'⟩, _⟩ := I.list h'
  rw [e] at e'; cases e'
  rw [d] at d'
  injection d' with d1 _
  have : its = its' := by simpa using congrArg Array.toList d1
  subst this
  exact r.inj r'
theorem Inv.tuple_inj (I : Inv X pins σ H s) (h : SqT X.K H a xs) (h' : SqT X.K H a ys) : xs = ys := by
  obtain ⟨its, r, ⟨o, e, _, n, d⟩, _⟩ := I.tuple h
  obtain ⟨its', r', ⟨o', e', _, n', d'⟩, _⟩ := I.tuple h'
  rw [e] at e'; cases e'
  rw [d] at d'
  injection d' with d1 _
  have : its = its' := by simpa using congrArg Array.toList d1
  subst this
  exact r.inj r'
end
noncomputable abbrev Cx.wish (X : Cx) (E : Value → Shared → Prop) : Cx := { X with xe := E }
noncomputable abbrev Cx.nox (X : Cx) : Cx := X.wish fun _ _ => False
theorem Cx.Ok.wish {X : Cx} (ok : X.Ok) (E : Value → Shared → Prop) : (X.wish E).Ok :=
  ⟨ok.mod, ok.kind, ok.glob, ok.blt, ok.above, ok.inj, ok.has, ok.cab, ok.hd, ok.frames, ok.stk, ok.exf, ok.bs, ok.bsz, ok.noex, ok.exfs, ok.funs, ok.frf⟩
theorem Cx.Ok.unwish {X : Cx} {E : Value → Shared → Prop} (ok : (X.wish E).Ok) : X.Ok :=
  ⟨ok.mod, ok.kind, ok.glob, ok.blt, ok.above, ok.inj, ok.has, ok.cab, ok.hd, ok.frames, ok.stk, ok.exf, ok.bs, ok.bsz, ok.noex, ok.exfs, ok.funs, ok.frf⟩
section
variable {X : Cx} {pins : List (Addr × Obj)} {σ : St} {H : Hp} {s : Shared} {E : Value → Shared → Prop}
theorem Inv.wish (I : Inv X pins σ H s) (E : Value → Shared → Prop) : Inv (X.wish E) pins σ H s := ⟨I.ok.wish E, I.os, I.bare, I.base, I.loc, I.cell, I.free, I.freeC, I.pin, I.hok, I.len⟩
theorem Inv.unwish (I : Inv (X.wish E) pins σ H s) : Inv X pins σ H s := ⟨I.ok.unwish, I.os, I.bare, I.base, I.loc, I.cell, I.free, I.freeC, I.pin, I.hok, I.len⟩
theorem SP.unwish {D : Ends} {f : Flow} {s' : Shared} (h : SP (X.wish E) pins D f s') : SP X pins D f s' := by
  cases f with
  | next => obtain ⟨σ', H', I, q⟩ := h; exact ⟨σ', H', I.unwish, q⟩
  | brk => obtain ⟨σ', H', I, q⟩ := h; exact ⟨σ', H', I.unwish, q⟩
  | cont => obtain ⟨σ', H', I, q⟩ := h; exact ⟨σ', H', I.unwish, q⟩
  | ret u => obtain ⟨v, σ', H', I, r, q⟩ := h; exact ⟨v, σ', H', I.unwish, r, q⟩
theorem PSs.nox {st : List Stmt} {t : TS} (h : PSs X.nox st t) : PSs X st t := fun pins s σ H D I hw =>
  wpAny_mono (h pins s σ H D (I.wish _) hw) (fun _ _ q => q.unwish) fun _ _ z => False.elim z
end
section
variable {X : Cx} {st : Stmt} {rest : List Stmt} {t u : TS} {e : Expr} {te : TE} {pos : Pos}
noncomputable def tNext : TS := fun D σ H => D.nx σ H
noncomputable def tSeq (t u : TS) : TS := fun D σ H => t { D with nx := u D } σ H
theorem pss_nil : PSs X [] tNext := fun _ _ σ H _ I h => wpAny_execs_nil ⟨σ, H, I, h⟩
theorem pss_cons (h1 : PS X st t) (h2 : PSs X rest u) : PSs X (st :: rest) (tSeq t u) := by
  intro pins s σ H D I h
  refine wpAny_execs_cons (thn (h1 pins s σ H { D with nx := u D } I h) fun f s1 q => ?_)
  cases f with
  | next =>
    obtain ⟨σ', H', I', q⟩ := q
    exact h2 pins s1 σ' H' D I' q
  | ret v => exact q
  | brk => exact q
  | cont => exact q
theorem pss_one (h1 : PS X st t) : PSs X [st] t := by
  intro pins s σ H D I h
  refine wpAny_execs_cons (thn (h1 pins s σ H D I h) fun f s1 q => ?_)
  cases f with
  | next => exact wpAny_execs_nil q
  | ret v => exact q
  | brk => exact q
  | cont => exact q
theorem Inv.quiet {pins : List (Addr × Obj)} {σ : St} {H : Hp} {s : Shared} (I : Inv X pins σ H s) : interactive X.env = false := by simp [interactive, I.ok.kind]
noncomputable def tDrop (te : TE) : TS := fun D σ H => te σ H fun _ H1 => D.nx σ H1
theorem ps_expr (he : PE X e te) (hs : swapsWith e none pos.line X.env = pure false := by rfl) : PS X (.Expr e pos) (tDrop te) := by
  intro pins s σ H D I h
  exact wpAny_Expr_any (thn (he pins s σ H _ I h) fun v s1 ⟨x, H1, I1, r1, q1⟩ => ⟨σ, H1, I1, q1⟩) I.quiet hs
noncomputable def tRet (te : TE) : TS := fun D σ H => te σ H D.rt
theorem ps_ret (he : PE X e te) : PS X (.Return (some e) pos) (tRet te) := by
  intro pins s σ H D I h
  refine wpAny_Return_some (thn (he pins s σ H _ I h) fun v s1 zq7 => ?_)
  obtain ⟨x, H1, I1, r1, q1⟩ := zq7
  exact ⟨x, σ, H1, I1, r1, q1⟩
noncomputable def tIfS (c : TT) (t u : TS) : TS := fun D σ H => c σ H fun b H1 => if b = true then t D σ H1 else u D σ H1
theorem ps_if {c : Expr} {a b : List Stmt} {tc : TT} (hc : PT X c tc) (ha : PSs X a t) (hb : PSs X b u) : PS X (.If c a b pos) (tIfS tc t u) := by
  intro pins s σ H D I h
  refine wpAny_If (thn (hc pins s σ H _ I h) fun d s1 zq8 => ?_)
  obtain ⟨H1, I1, q1⟩ := zq8
  refine ?_
  cases d with
  | true => exact ha pins s1 σ H1 D I1 q1
  | false => exact hb pins s1 σ H1 D I1 q1
noncomputable def tNever : TS := fun _ _ _ => False
theorem ps_never : PS X st tNever := fun _ _ _ _ _ _ h => h.elim
end
noncomputable abbrev TG := V → St → Hp → (St → Hp → Prop) → Prop
noncomputable abbrev TGs := List V → St → Hp → (St → Hp → Prop) → Prop
noncomputable def PG (X : Cx) (target : Expr) (t : TG) : Prop :=
  ∀ (pins : List (Addr × Obj)) (s : Shared) (σ : St) (H : Hp) (v : V) (u : Value) (Q : St → Hp → Prop), Inv X pins σ H s → RelV v u → t v σ H Q →
    wpAny (model X.prog X.w) X.A (assign target X.env u) (fun _ s' => ∃ σ' H', Inv X pins σ' H' s' ∧ Q σ' H') X.xe s
noncomputable def PGs (X : Cx) (ts : List Expr) (t : TGs) : Prop :=
  ∀ (pins : List (Addr × Obj)) (s : Shared) (σ : St) (H : Hp) (vs : List V) (us : List Value) (Q : St → Hp → Prop), Inv X pins σ H s → Vals vs us → t vs σ H Q →
    wpAny (model X.prog X.w) X.A (assignInOrder ((assignEach ts X.env).map (·.2)) us) (fun _ s' => ∃ σ' H', Inv X pins σ' H' s' ∧ Q σ' H') X.xe s
noncomputable abbrev TSet := V → V → V → Hp → (Hp → Prop) → Prop
noncomputable def PSet (X : Cx) (t : TSet) : Prop :=
  ∀ (pins : List (Addr × Obj)) (s : Shared) (σ : St) (H : Hp) (o i v : V) (ov iv u : Value) (Q : Hp → Prop), Inv X pins σ H s → RelV o ov → RelV i iv → RelV v u → t o i v H Q →
    wpAny (model X.prog X.w) X.A (setItem ov iv u) (fun _ s' => ∃ H', Inv X pins σ H' s' ∧ Q H') X.xe s
section
variable {X : Cx} {pos : Pos}
noncomputable def gName (i : Nat) : TG := fun v σ H Q => Q (σ.set i (some v)) H
theorem pg_name {i : Nat} {x : Str} (hN : X.N.Nodup) (hi : X.N[i]? = some x) (hx : Loc X.env.scope x) (hf : X.fn x = true ∨ X.env.scope.names.lookup x = some .local := by first | exact .inl rfl | exact .inr rfl | assumption) : PG X (.Name x pos) (gName i) := by
  intro pins s σ H v u Q I r h
  exact wpAny_assign_Name (store_ok I hN hi hx r (fun s' I' => ⟨_, H, I', h⟩) hf)
noncomputable def gNil : TGs := fun vs σ H Q => vs = [] ∧ Q σ H
noncomputable def gCons (t : TG) (u : TGs) : TGs := fun vs σ H Q => ∃ v r, vs = v :: r ∧ t v σ H fun σ' H' => u r σ' H' Q
theorem pgs_nil : PGs X [] gNil := by
  intro pins s σ H vs us Q I r h
  obtain ⟨e, h⟩ := h
  subst e
  cases r
  exact assignInOrder_nil ⟨σ, H, I, h⟩
theorem pgs_cons {e : Expr} {es : List Expr} {t : TG} {u : TGs} (h1 : PG X e t) (h2 : PGs X es u)
    (hs : (assignEach (e :: es) X.env).map (·.2) = assign e X.env :: (assignEach es X.env).map (·.2) := by rfl) : PGs X (e :: es) (gCons t u) := by
  intro pins s σ H vs us Q I r h
  obtain ⟨v, vr, e1, h⟩ := h
  subst e1
  cases r with
  | cons r rr =>
    rw [hs]
    refine assignInOrder_cons (thn (h1 pins s σ H _ _ _ I r h) fun _ s1 zq9 => ?_)
    obtain ⟨σ1, H1, I1, q1⟩ := zq9
    refine ?_
    exact h2 pins s1 σ1 H1 _ _ Q I1 rr q1
noncomputable def gTup (K : PySem.W.Frag) (n : Nat) (t : TGs) : TG := fun v σ H Q => ∃ a xs, v = .ref a ∧ SqT K H a xs ∧ xs.length = n ∧ t xs σ H Q
theorem pg_tup {es : List Expr} {k : Nat} {t : TGs} {n : Nat} (hc : X.calm = true) (h : PGs X es t)
    (hn : (assignEach es X.env).length = n := by rfl) (hst : (assignEach es X.env).findIdx? (·.1) = none := by rfl) : PG X (.Tuple es k pos) (gTup X.K n t) := by
  intro pins s σ H v u Q I r hw
  obtain ⟨a, xs, e1, hq, hl, hw⟩ := hw
  subst e1
  cases r
  obtain ⟨its, rv, ht, hz⟩ := I.tuple hq
  refine assign_Tuple_tuple (I.ok.hd hc) ht (by simp [hn, ← hl, rv.length]) hst fun h' hx => ?_
  have I1 : Inv X pins σ H { s with heap := h' } := I.kept (t' := s.toks) fun b o e => hx b o (Nat.ne_of_lt (Heap.lt_size e)) e
  exact h pins _ σ H xs _ Q I1 (by simpa using rv) hw
noncomputable def gSub (to ti : TE) (t : TSet) : TG := fun v σ H Q => to σ H fun o H1 => ti σ H1 fun i H2 => t o i v H2 fun H3 => Q σ H3
theorem pg_sub {o i : Expr} {to ti : TE} {t : TSet} (ho : PE X o to) (hi : PE X i ti) (hs : PSet X t)
    (ha : ∀ v, assign (.Subscript o i pos) X.env v = (do
      let ov ← holding [v] (eval o X.env)
      let iv ← holding [v, ov] (eval i X.env)
      standAt pos
      holding [v, ov, iv] (setItem ov iv v)
      release [v, ov, iv] []) := by intro _; rfl) : PG X (.Subscript o i pos) (gSub to ti t) := by
  intro pins s σ H v u Q I r h
  rw [ha]
  refine wpAny_bind (wpAny_holding (thn (ho pins s σ H _ I h) fun ov s1 zq10 => ?_))
  obtain ⟨x, H1, I1, r1, q1⟩ := zq10
  refine ?_
  refine wpAny_bind (wpAny_holding (thn (hi pins s1 σ H1 _ I1 q1) fun iv s2 zq11 => ?_))
  obtain ⟨y, H2, I2, r2, q2⟩ := zq11
  refine ?_
  refine wpAny_bind (wpAny_standAt (wpAny_bind (wpAny_holding (thn (hs pins s2 σ H2 x y v ov iv u _ I2 r1 r2 r q2) fun _ s3 zq12 => ?_))))
  obtain ⟨H3, I3, q3⟩ := zq12
  refine ?_
  exact wpAny_release ⟨σ, H3, I3, q3⟩
noncomputable def tAsg (te : TE) (g : TG) : TS := fun D σ H => te σ H fun x H1 => g x σ H1 D.nx
theorem ps_asg {tg e : Expr} {te : TE} {g : TG} (he : PE X e te) (hg : PG X tg g) (hs : swapsWithSole [tg] e pos.line X.env = pure false := by rfl) (hw : swappedStores [tg] e X.env = pure none := by rfl)
    (h1 : (assignEach [tg] X.env).map (·.2) = [assign tg X.env] := by rfl) : PS X (.Assign [tg] e pos) (tAsg te g) := by
  intro pins s σ H D I h
  refine wpAny_Assign_stores (thn (he pins s σ H _ I h) fun v s1 ⟨x, H1, I1, r1, q1⟩ => ?_) hs hw
  rw [h1]
  exact thn (hg pins s1 σ H1 x v _ I1 r1 q1) fun _ s2 q => q
theorem ps_set {i : Nat} {x : Str} {e : Expr} {te : TE} {pos' : Pos} (hN : X.N.Nodup) (hi : X.N[i]? = some x) (hx : Loc X.env.scope x) (he : PE X e te) (hs : swapsWith e (some (.Name x pos')) pos.line X.env = pure false := by rfl) (hf : X.fn x = true ∨ X.env.scope.names.lookup x = some .local := by first | exact .inl rfl | exact .inr rfl | assumption) :
    PS X (.Assign [.Name x pos'] e pos) (tAsg te (gName i)) := by
  intro pins s σ H D I h
  refine wpAny_Assign_Name (thn (he pins s σ H _ I h) fun v s1 ⟨y, H1, I1, r1, q1⟩ => ?_) hs
  exact store_ok I1 hN hi hx r1 (fun s2 I2 => ⟨_, H1, I2, q1⟩) hf
end
section
variable {X : Cx} {pos : Pos}
noncomputable def tWhile (c : TT) (tb : TS) : TS := fun D σ H => ∃ W : Nat → St → Hp → Prop, (∃ m, W m σ H) ∧ ∀ m σ H, W m σ H →
  c σ H fun b H1 => if b = true then ∃ N : St → Hp → Prop, (∀ σ' H', N σ' H' → ∃ m', m' < m ∧ W m' σ' H') ∧ tb { D with nx := N, ct := N, bk := D.nx } σ H1 else D.nx σ H1
theorem ps_while {c : Expr} {body : List Stmt} {tc : TT} {tb : TS} (hp : PassesOwn (model X.prog X.w) X.A X.env X.xe) (hc : PT X c tc) (hb : PSs X body tb) : PS X (.While c body [] pos) (tWhile tc tb) := by
  intro pins s σ H D I h
  obtain ⟨W, ⟨m0, w0⟩, turn⟩ := h
  refine wpAny_While (codeAny_whileLoop (fun n s' => ∃ σ' H', Inv X pins σ' H' s' ∧ W n σ' H') ?_ m0 ⟨σ, H, I, w0⟩)
  rintro n s1 ⟨σ1, H1, I1, w1⟩
  refine wpAny_passesOwn hp (thn (hc pins s1 σ1 H1 _ I1 (turn n σ1 H1 w1)) fun b s2 zq13 => ?_)
  obtain ⟨H2, I2, q2⟩ := zq13
  refine ?_
  cases b with
  | true =>
    obtain ⟨N, hN, q2⟩ := q2
    rw [if_pos rfl]
    refine wpAny_passesOwn hp (thn (hb pins s2 σ1 H2 _ I2 q2) fun f s3 q3 => ?_)
    cases f with
    | next =>
      obtain ⟨σ3, H3, I3, n3⟩ := q3
      obtain ⟨m', hm, w3⟩ := hN σ3 H3 n3
      exact ⟨m', hm, σ3, H3, I3, w3⟩
    | cont =>
      obtain ⟨σ3, H3, I3, n3⟩ := q3
      obtain ⟨m', hm, w3⟩ := hN σ3 H3 n3
      exact ⟨m', hm, σ3, H3, I3, w3⟩
    | brk => exact q3
    | ret v => exact q3
  | false =>
    rw [if_neg Bool.false_ne_true]
    exact wpAny_execs_nil ⟨σ1, H2, I2, q2⟩
end
structure It where
  go : Nat → Hp → Prop
  yld : Nat → Hp → V → Hp → Prop
  stop : Nat → Hp → Prop
noncomputable def FpOk (X : Cx) (pins : List (Addr × Obj)) (H : Hp) (b : Addr) : Prop :=
  H b = none ∧ b ≠ X.env.locals ∧ b ∉ X.fs ∧ (b ∈ X.ex ∨ X.s₀.heap.objs.size ≤ b) ∧ (∀ x c, X.env.cells.lookup x = some c → c ≠ b) ∧ ∀ p ∈ X.pn ++ pins, p.1 ≠ b
theorem Inv.fpOk {X : Cx} {pins : List (Addr × Obj)} {σ : St} {H H' : Hp} {s : Shared} {b : Addr} (I : Inv X pins σ H s) (hb : s.heap.objs.size ≤ b) (hn : H' b = none) : FpOk X pins H' b := by
  refine ⟨hn, Nat.ne_of_gt (Nat.lt_of_lt_of_le I.lt hb), I.nofs hb, .inr (Nat.le_trans I.sz hb), fun x c e z => ?_, fun p hp z => ?_⟩
  · obtain ⟨v, q⟩ := I.cell x c e
    exact absurd (Nat.lt_of_lt_of_le q.lt (by rw [z]; exact hb)) (Nat.lt_irrefl _)
  · exact absurd (Nat.lt_of_lt_of_le (Heap.lt_size (I.pin p hp).1) (by rw [z]; exact hb)) (Nat.lt_irrefl _)
structure Turn (P : Program) (w : World) (K : PySem.W.Frag) (tg : Expr) (J : It) (fp : List Addr) (it : Addr) (tn : Nat → Heap → Prop) : Prop where
  mem : it ∈ fp
  obj : ∀ i h, tn i h → ∀ b ∈ fp, ∃ o, h.get? b = some o ∧ ∀ v, o.data ≠ .cell v
  keep : ∀ i h h', tn i h → (∀ b ∈ fp, ∀ o, h.get? b = some o → h'.get? b = some o) → tn i h'
  item : ∀ (X : Cx), X.prog = P → X.w = w → X.K = K → X.calm = true → ∀ (i : Nat) (pins : List (Addr × Obj)) (s : Shared) (σ : St) (H : Hp) (E : Value → Shared → Prop), Inv X pins σ H s → (∀ b ∈ fp, FpOk X pins H b) → tn i s.heap → J.go i H →
    wpAny (model P w) X.A (pyNext (.ref it)) (fun r s1 => ∃ u, r = some u ∧
      wpAny (model P w) X.A (letOwnedTupleGo tg (.ref it) u) (fun _ s2 => ∃ x H', Inv X pins σ H' s2 ∧ RelV x u ∧ J.yld i H x H' ∧ tn (i + 1) s2.heap ∧ ∀ b ∈ fp, H' b = none) E s1) E s
  done : ∀ (X : Cx), X.prog = P → X.w = w → X.K = K → X.calm = true → ∀ (i : Nat) (pins : List (Addr × Obj)) (s : Shared) (σ : St) (H : Hp) (E : Value → Shared → Prop), Inv X pins σ H s → (∀ b ∈ fp, FpOk X pins H b) → tn i s.heap → J.stop i H →
    wpAny (model P w) X.A (pyNext (.ref it)) (fun r s1 => r = none ∧ Inv X pins σ H s1) E s
  self : ∀ (A : Around) (i : Nat) (s : Shared) (Q : Value → Shared → Prop) (E : Value → Shared → Prop), tn i s.heap → Q (.ref it) s → wpAny (model P w) A (pyIter (.ref it)) Q E s
noncomputable abbrev TI := St → Hp → (It → Hp → Prop) → Prop
noncomputable def PIE (X : Cx) (pins : List (Addr × Obj)) (σ : St) (tg : Expr) (R : It → Hp → Prop) (itv : Value) (s2 : Shared) : Prop :=
  ∃ (it : Addr) (fp : List Addr) (tn : Nat → Heap → Prop) (J : It) (H' : Hp), itv = .ref it ∧ Inv X pins σ H' s2 ∧ Turn X.prog X.w X.K tg J fp it tn ∧ tn 0 s2.heap ∧ (∀ b ∈ fp, FpOk X pins H' b) ∧ R J H'
noncomputable def PI (X : Cx) (tg iter : Expr) (wi : TI) : Prop :=
  ∀ (pins : List (Addr × Obj)) (s : Shared) (σ : St) (H : Hp) (R : It → Hp → Prop), Inv X pins σ H s → wi σ H R →
    wpAny (model X.prog X.w) X.A (eval iter X.env) (fun v s1 => wpAny (model X.prog X.w) X.A (pyIter v) (PIE X pins σ tg R) X.xe s1) X.xe s
theorem go_of {M : Model} {A : Around} {E : Value → Shared → Prop} {s : Shared} {tg : Expr} {it : Addr} {u : Value} {o : Obj} {n : String} {vs : Array Value} {Q : Unit → Shared → Prop} (ho : s.heap.get? it = some o) (hc : o.cls = .type n) (hd : o.data = .fields vs)
    (hn : ["enumerate", "zip", "dict_itemiterator", "dict_reverseitemiterator", "odict_iterator", "itertools.zip_longest", "itertools.pairwise"].contains n = false) (hQ : Q () s) : wpAny M A (letOwnedTupleGo tg (.ref it) u) Q E s := by
  unfold letOwnedTupleGo
  cases tg <;> first
    | exact wpAny_pure hQ
    | (cases u <;> first
        | exact wpAny_pure hQ
        | (refine wpAny_bind (wpAny_load ho ?_)
           rw [hc, hd]
           show wpAny M A (if (["enumerate", "zip", "dict_itemiterator", "dict_reverseitemiterator", "odict_iterator", "itertools.zip_longest", "itertools.pairwise"].contains n && vs[0]? == some (rawInt _)) = true then _ else _) Q E s
           rw [if_neg (by intro h; rw [hn, Bool.false_and] at h; cases h)]
           exact wpAny_pure hQ))
noncomputable def Itl (K : PySem.W.Frag) (a : Addr) : It :=
  ⟨fun i H => ∃ xs x, SqL K H a xs ∧ xs[i]? = some x, fun i H x H' => H' = H ∧ ∀ xs, SqL K H a xs → xs[i]? = some x, fun i H => ∃ xs, SqL K H a xs ∧ xs.length ≤ i⟩
noncomputable def Itt (K : PySem.W.Frag) (a : Addr) : It :=
  ⟨fun i H => ∃ xs x, SqT K H a xs ∧ xs[i]? = some x, fun i H x H' => H' = H ∧ ∀ xs, SqT K H a xs → xs[i]? = some x, fun i H => ∃ xs, SqT K H a xs ∧ xs.length ≤ i⟩
noncomputable def Itr (lo : Int) (n : Nat) : It := ⟨fun i _ => i < n, fun i H x H' => H' = H ∧ x = .int (lo + i), fun i _ => n ≤ i⟩
theorem turn_list {P : Program} {w : World} {K : PySem.W.Frag} {tg : Expr} (a it : Addr) : Turn P w K tg (Itl K a) [it] it (fun i h => h.IsListIter it a i) where
  mem := by simp
  obj := fun i h st b hb => by
    have e : b = it := by simpa using hb
    subst e
    obtain ⟨o, e, c, d⟩ := st
    exact ⟨o, e, fun v z => by rw [d] at z; cases z⟩
  keep := fun i h h' st k => st.at fun o e => k it (by simp) o e
  item := by
    intro X hP hw hK hc i pins s σ H E I hf st hg
    subst hP hw hK
    obtain ⟨xs, x, hq, hx⟩ := hg
    obtain ⟨its, rv, p, hz⟩ := I.list hq
    obtain ⟨u, hu, ru⟩ := rv.get hx
    obtain ⟨f0, f1, f2, f3, f4, f5⟩ := hf it (by simp)
    refine wpAny_pyNext_list_item st p.isList (x := u) (by simpa using hu) fun h' st' sb => ?_
    have I1 : Inv X pins σ H { s with heap := h' } := I.turned (t' := s.toks) (fun b o hb e => (sb.2 b hb).trans e) f0 f1 f3 f4 f5
    obtain ⟨o, e, c, d⟩ := id st'
    exact ⟨u, rfl, go_of (s := { s with heap := h' }) e c d (by decide) ⟨x, H, I1, ru, ⟨rfl, fun ys hy => by rw [I.list_inj hy hq]; exact hx⟩, st', fun b hb => (hf b hb).1⟩⟩
  done := by
    intro X hP hw hK hc i pins s σ H E I hf st hg
    subst hP hw hK
    obtain ⟨xs, hq, hx⟩ := hg
    obtain ⟨its, rv, p, hz⟩ := I.list hq
    obtain ⟨f0, f1, f2, f3, f4, f5⟩ := hf it (by simp)
    have hl := rv.length
    exact wpAny_pyNext_list_end (I.ok.hd hc) st p.isList (by simp; omega) fun h' eb => ⟨rfl, I.turned (t' := s.toks) (fun b o hb e => eb b o hb e) f0 f1 f3 f4 f5⟩
  self := fun _ _ _ _ _ st h => wpAny_pyIter_listiter st h
theorem turn_tuple {P : Program} {w : World} {K : PySem.W.Frag} {tg : Expr} (a it : Addr) : Turn P w K tg (Itt K a) [it] it (fun i h => h.IsTupleIter it a i) where
  mem := by simp
  obj := fun i h st b hb => by
    have e : b = it := by simpa using hb
    subst e
    obtain ⟨o, e, c, d⟩ := st
    exact ⟨o, e, fun v z => by rw [d] at z; cases z⟩
  keep := fun i h h' st k => st.at fun o e => k it (by simp) o e
  item := by
    intro X hP hw hK hc i pins s σ H E I hf st hg
    subst hP hw hK
    obtain ⟨xs, x, hq, hx⟩ := hg
    obtain ⟨its, rv, p, hz⟩ := I.tuple hq
    obtain ⟨u, hu, ru⟩ := rv.get hx
    obtain ⟨f0, f1, f2, f3, f4, f5⟩ := hf it (by simp)
    refine wpAny_pyNext_tuple_item st (show s.heap.IsTuple a its.toArray from p) (x := u) (by simpa using hu) fun h' st' sb => ?_
    have I1 : Inv X pins σ H { s with heap := h' } := I.turned (t' := s.toks) (fun b o hb e => (sb.2 b hb).trans e) f0 f1 f3 f4 f5
    obtain ⟨o, e, c, d⟩ := id st'
    exact ⟨u, rfl, go_of (s := { s with heap := h' }) e c d (by decide) ⟨x, H, I1, ru, ⟨rfl, fun ys hy => by rw [I.tuple_inj hy hq]; exact hx⟩, st', fun b hb => (hf b hb).1⟩⟩
  done := by
    intro X hP hw hK hc i pins s σ H E I hf st hg
    subst hP hw hK
    obtain ⟨xs, hq, hx⟩ := hg
    obtain ⟨its, rv, p, hz⟩ := I.tuple hq
    obtain ⟨f0, f1, f2, f3, f4, f5⟩ := hf it (by simp)
    have hl := rv.length
    exact wpAny_pyNext_tuple_end (I.ok.hd hc) st (show s.heap.IsTuple a its.toArray from p) (by simp; omega) fun h' eb => ⟨rfl, I.turned (t' := s.toks) (fun b o hb e => eb b o hb e) f0 f1 f3 f4 f5⟩
  self := fun _ _ _ _ _ st h => wpAny_pyIter_tupleiter st h
theorem turn_range {P : Program} {w : World} {K : PySem.W.Frag} {tg : Expr} (it : Addr) (lo : Int) (n : Nat) : Turn P w K tg (Itr lo n) [it] it (fun i h => IsRangeIter h it (lo + (i : Nat) * 1) ((n : Int) - (i : Nat)) 1) where
  mem := by simp
  obj := fun i h st b hb => by
    have e : b = it := by simpa using hb
    subst e
    exact ⟨_, st, fun v z => by
      have z' : Data.fields _ = Data.cell v := z
      cases z'⟩
  keep := fun i h h' st k => k it (by simp) _ st
  item := by
    intro X hP hw hK hc i pins s σ H E I hf st hg
    subst hP hw hK
    obtain ⟨f0, f1, f2, f3, f4, f5⟩ := hf it (by simp)
    have W := Walks.range (prog := X.prog) (w := X.w) (I.ok.hd hc) it lo 1 n
    refine W.item i s _ _ hg st fun v h' tk hv st' kk => ?_
    obtain ⟨t, rfl⟩ := hv
    have I1 : Inv X pins σ H { s with heap := h', toks := tk } := I.turned (fun b o hb e => kk b o (by simpa using hb) e) f0 f1 f3 f4 f5
    refine ⟨_, rfl, go_of (s := { s with heap := h', toks := tk }) (n := "range_iterator") st' rfl rfl (by decide) ⟨.int (lo + i), H, I1, ⟨t, ?_⟩, ⟨rfl, rfl⟩, st', fun b hb => (hf b hb).1⟩⟩
    rw [Int.mul_one]
  done := by
    intro X hP hw hK hc i pins s σ H E I hf st hg
    subst hP hw hK
    obtain ⟨f0, f1, f2, f3, f4, f5⟩ := hf it (by simp)
    exact wpAny_pyNext_range_end (I.ok.hd hc) st (by have : n ≤ i := hg; omega) fun h' eb => ⟨rfl, I.turned (t' := s.toks) (fun b o hb e => eb b o hb e) f0 f1 f3 f4 f5⟩
  self := fun _ _ _ _ _ st h => wpAny_pyIter_rangeiter st h
end L2
namespace L2
open PySem PySem.Spec PyProof.Rows
section
variable {X : Cx} {tg : Expr}
theorem range_it {pins : List (Addr × Obj)} {σ : St} {H : Hp} {s : Shared} {R : It → Hp → Prop} {E : Value → Shared → Prop} {lo hi : Int} {t u v : Tok} {tk : Nat} (I : Inv X pins σ H s) (h1 : -(2 ^ 62) ≤ lo) (h2 : lo < 2 ^ 62) (h3 : -(2 ^ 62) ≤ hi) (h4 : hi < 2 ^ 62)
    (q : R (Itr lo (hi - lo).toNat) H) : wpAny (model X.prog X.w) X.A (pyIter (.ref s.heap.objs.size)) (PIE X pins σ tg R) E { s with heap := s.heap.push { cls := .type "range", data := .fields #[.int lo t, .int hi u, .int 1 v] }, toks := tk } := by
  refine wpAny_pyIter_range (IsRange.new ..) (small_one h1 h2 h3 h4) ?_
  have I1 : Inv X pins σ H { s with heap := s.heap.push { cls := .type "range", data := .fields #[.int lo t, .int hi u, .int 1 v] }, toks := tk } := I.kept fun b o e => Heap.get?_push_of_some _ e
  refine ⟨(s.heap.push { cls := .type "range", data := .fields #[.int lo t, .int hi u, .int 1 v] }).objs.size, [(s.heap.push { cls := .type "range", data := .fields #[.int lo t, .int hi u, .int 1 v] }).objs.size], _, _, H, rfl,
    I1.kept (t' := tk) fun b o e => Heap.get?_push_of_some _ e, turn_range _ lo (hi - lo).toNat, ?_, fun b hb => ?_, q⟩
  · have e1 : lo + ((0 : Nat) : Int) * 1 = lo := by simp
    have e2 : (((hi - lo).toNat : Nat) : Int) - ((0 : Nat) : Int) = Builtin.Range.rangeSize lo hi 1 := by rw [rangeSize_one]; split <;> omega
    show IsRangeIter _ _ (lo + ((0 : Nat) : Int) * 1) ((((hi - lo).toNat : Nat) : Int) - ((0 : Nat) : Int)) 1
    rw [e1, e2]
    exact Heap.get?_push_size _ rfl
  · have e : b = (s.heap.push { cls := .type "range", data := .fields #[.int lo t, .int hi u, .int 1 v] }).objs.size := by simpa using hb
    subst e
    exact I1.fpOk (Nat.le_refl _) (I1.hok.fresh (Nat.le_refl _))
noncomputable def iRng1 (ta : TA) : TI := fun σ H R => ta σ H fun vs H1 => ∃ j : Int, vs = [.int j] ∧ -(2 ^ 62) ≤ j ∧ j < 2 ^ 62 ∧ R (Itr 0 j.toNat) H1
theorem pi_range1 {a : Expr} {ta : TA} {p pos : Pos} (hg : Gl X "range") (hm : X.mg "range" = none) (ha : PA X [a] ta) (hs : starEach [a] X.env = [(false, eval a X.env)] := by rfl) : PI X tg (.Call (.Name "range" p) [a] [] pos) (iRng1 ta) := by
  intro pins s σ H R I h
  refine Call_ (ld_blt I hg hm boot_range (PyProof.Rows.callWith_type1 (thn (ha pos pins s σ H _ I h) fun us s1 ⟨vs, H1, I1, r1, q1⟩ => ?_) hs rfl))
  obtain ⟨j, e, q1, q2, q⟩ := q1
  subst e
  cases r1 with
  | cons r rr =>
    cases rr
    obtain ⟨t, rfl⟩ := r
    exact call_range_1 (range_it I1 (by omega) (by omega) q1 q2 (by simpa using q))
noncomputable def tFor (wi : TI) (g : TG) (tb : TS) : TS := fun D σ H => wi σ H fun J H1 => ∃ W : Nat → Nat → St → Hp → Prop, (∃ m, W 0 m σ H1) ∧ ∀ i m σ H, W i m σ H →
  (J.stop i H ∧ D.nx σ H) ∨ (J.go i H ∧ ∃ N : St → Hp → Prop, (∀ σ' H', N σ' H' → ∃ m', m' < m ∧ W (i + 1) m' σ' H') ∧ ∀ x H', J.yld i H x H' → g x σ H' fun σ2 H2 => tb { D with nx := N, ct := N, bk := D.nx } σ2 H2)
noncomputable def pinsAt (fp : List Addr) (h : Heap) : List (Addr × Obj) := fp.filterMap fun b => (h.get? b).map fun o => (b, o)
theorem mem_pinsAt {fp : List Addr} {h : Heap} {b : Addr} {o : Obj} (hb : b ∈ fp) (e : h.get? b = some o) : (b, o) ∈ pinsAt fp h := List.mem_filterMap.mpr ⟨b, hb, by rw [e]; rfl⟩
theorem of_pinsAt {fp : List Addr} {h : Heap} {p : Addr × Obj} (hp : p ∈ pinsAt fp h) : p.1 ∈ fp ∧ h.get? p.1 = some p.2 := by
  obtain ⟨b, hb, e⟩ := List.mem_filterMap.mp hp
  cases q : h.get? b with
  | none => rw [q] at e; cases e
  | some o =>
    rw [q] at e
    have e' : (b, o) = p := Option.some.inj e
    subst e'
    exact ⟨hb, q⟩
theorem Inv.pinned {pins : List (Addr × Obj)} {σ : St} {H : Hp} {s : Shared} {fp : List Addr} (I : Inv X pins σ H s) (hf : ∀ b ∈ fp, FpOk X pins H b) (ho : ∀ b ∈ fp, ∃ o, s.heap.get? b = some o ∧ ∀ v, o.data ≠ .cell v) : Inv X (pins ++ pinsAt fp s.heap) σ H s :=
  I.pins_of fun p hp => (List.mem_append.mp hp).elim (fun z => I.pin p (List.mem_append_right _ z)) fun z => by
    obtain ⟨hb, e⟩ := of_pinsAt z
    obtain ⟨f0, f1, f2, _⟩ := hf p.1 hb
    obtain ⟨o, e', d⟩ := ho p.1 hb
    rw [e] at e'; cases e'
    exact ⟨e, f0, f1, f2, d⟩
theorem Inv.unpinned {pins pl : List (Addr × Obj)} {σ : St} {H : Hp} {s : Shared} (I : Inv X (pins ++ pl) σ H s) : Inv X pins σ H s := I.pins_of fun p hp => I.pin p (List.mem_append_right _ (List.mem_append_left _ hp))
theorem ps_for {iter : Expr} {body : List Stmt} {wi : TI} {g : TG} {tb : TS} {pos : Pos} (hp : PassesOwn (model X.prog X.w) X.A X.env X.xe) (hc : X.calm = true) (hi : PI X tg iter wi) (hg : PG X tg g) (hb : PSs X body tb)
    (hs : ∀ x, foldedSetIterable iter X.env x = pure x := by intro _; rfl) : PS X (.For tg iter body [] pos) (tFor wi g tb) := by
  intro pins s σ H D I h
  refine wpAny_For (thn (hi pins s σ H _ I h) fun v s1 h1 => thn h1 fun itv s2 h2 => ?_) hs
  obtain ⟨it, fp, tn, J, H2, e, I2, T, st2, f2, W, ⟨m0, w0⟩, turn⟩ := h2
  subst e
  have stat : ∀ {H' : Hp}, (∀ b ∈ fp, H' b = none) → ∀ b ∈ fp, FpOk X pins H' b := fun hn b hb => ⟨hn b hb, (f2 b hb).2⟩
  refine codeAny_forLoop_any (fun n s' => ∃ i σ' H', Inv X pins σ' H' s' ∧ tn i s'.heap ∧ (∀ b ∈ fp, H' b = none) ∧ W i n σ' H') ?_ m0 ⟨0, σ, H2, I2, st2, fun b hb => (f2 b hb).1, w0⟩
  rintro n s3 ⟨i, σ3, H3, I3, st3, fr3, w3⟩
  rcases turn i n σ3 H3 w3 with ⟨stop, qn⟩ | ⟨go, N, hN, step⟩
  · refine wpAny_passesOwn hp (thn (T.done X rfl rfl rfl hc i pins s3 σ3 H3 X.xe I3 (stat fr3) st3 stop) fun r s4 zq14 => ?_)
    obtain ⟨hr, I4⟩ := zq14
    refine ?_
    subst hr
    exact wpAny_execs_nil ⟨σ3, H3, I4, qn⟩
  · refine wpAny_passesOwn hp (thn (T.item X rfl rfl rfl hc i pins s3 σ3 H3 X.xe I3 (stat fr3) st3 go) fun r s4 zq15 => ?_)
    obtain ⟨u, hr, h4⟩ := zq15
    refine ?_
    subst hr
    refine wpAny_passesOwn hp (thn h4 fun _ s5 zq16 => ?_)
    obtain ⟨x, H5, I5, r5, y5, st5, fr5⟩ := zq16
    refine ?_
    have I5' := I5.pinned (stat fr5) (T.obj _ _ st5)
    refine wpAny_passesOwn hp (thn (hg _ s5 σ3 H5 x u _ I5' r5 (step x H5 y5)) fun _ s6 zq17 => ?_)
    obtain ⟨σ6, H6, I6, q6⟩ := zq17
    refine ?_
    refine wpAny_passesOwn hp (thn (hb _ s6 σ6 H6 _ I6 q6) fun f s7 q7 => ?_)
    have again : ∀ {σ7 : St} {H7 : Hp}, Inv X (pins ++ pinsAt fp s5.heap) σ7 H7 s7 → N σ7 H7 → ∃ m, m < n ∧ ∃ i σ' H', Inv X pins σ' H' s7 ∧ tn i s7.heap ∧ (∀ b ∈ fp, H' b = none) ∧ W i m σ' H' := fun {σ7 H7} I7 n7 => by
      obtain ⟨m', hm, w7⟩ := hN σ7 H7 n7
      refine ⟨m', hm, i + 1, σ7, H7, I7.unpinned, T.keep _ _ _ st5 fun b hb o e => (I7.pin (b, o) (List.mem_append_right _ (List.mem_append_right _ (mem_pinsAt hb e)))).1, fun b hb => ?_, w7⟩
      obtain ⟨o, e, d⟩ := T.obj _ _ st5 b hb
      exact (I7.pin (b, o) (List.mem_append_right _ (List.mem_append_right _ (mem_pinsAt hb e)))).2.1
    cases f with
    | next => obtain ⟨σ7, H7, I7, n7⟩ := q7; exact again I7 n7
    | cont => obtain ⟨σ7, H7, I7, n7⟩ := q7; exact again I7 n7
    | brk => obtain ⟨σ7, H7, I7, q7⟩ := q7; exact ⟨σ7, H7, I7.unpinned, q7⟩
    | ret v => obtain ⟨x7, σ7, H7, I7, r7, q7⟩ := q7; exact ⟨x7, σ7, H7, I7.unpinned, r7, q7⟩
end
end L2
namespace L2
open PySem PySem.Spec PyProof.Rows
noncomputable abbrev R2 := V → V → Hp → VK → Prop
noncomputable def OpR (X : Cx) (f : Value → Value → Sem Value) (r : R2) : Prop :=
  ∀ (pins : List (Addr × Obj)) (s : Shared) (σ : St) (H : Hp) (x y : V) (v u : Value) (Q : VK), Inv X pins σ H s → RelV x v → RelV y u → r x y H Q →
    wpAny (model X.prog X.w) X.A (f v u) (EP X pins σ Q) X.xe s
noncomputable def UnR (X : Cx) (f : Value → Sem Value) (r : V → Hp → VK → Prop) : Prop :=
  ∀ (pins : List (Addr × Obj)) (s : Shared) (σ : St) (H : Hp) (x : V) (v : Value) (Q : VK), Inv X pins σ H s → RelV x v → r x H Q →
    wpAny (model X.prog X.w) X.A (f v) (EP X pins σ Q) X.xe s
noncomputable def CallR (X : Cx) (f : Value) (r : List V → Hp → VK → Prop) : Prop :=
  ∀ (pins : List (Addr × Obj)) (s : Shared) (σ : St) (H : Hp) (xs : List V) (us : List Value) (Q : VK), Inv X pins σ H s → Vals xs us → r xs H Q →
    wpAny (model X.prog X.w) X.A (call f us) (EP X pins σ Q) X.xe s
noncomputable def tOp (r : R2) (ta tb : TE) : TE := fun σ H Q => ta σ H fun x H1 => tb σ H1 fun y H2 => r x y H2 Q
noncomputable def tUn (r : V → Hp → VK → Prop) (ta : TE) : TE := fun σ H Q => ta σ H fun x H1 => r x H1 Q
noncomputable def rI (C : Int → Int → Prop) (g : Int → Int → V) : R2 := fun x y H Q => ∃ i j, x = .int i ∧ y = .int j ∧ C i j ∧ Q (g i j) H
noncomputable def rI0 (g : Int → Int → V) : R2 := fun x y H Q => ∃ i j, x = .int i ∧ y = .int j ∧ Q (g i j) H
noncomputable def rU (g : Int → V) : V → Hp → VK → Prop := fun x H Q => ∃ i, x = .int i ∧ Q (g i) H
section
variable {X : Cx} {a b c : Expr} {ta tb tc : TE} {pos : Pos}
theorem binT (ha : PE X a ta) (hb : PE X b tb) {pins : List (Addr × Obj)} {s : Shared} {σ : St} {H : Hp} {R : V → V → Hp → Prop} (I : Inv X pins σ H s)
    (h : ta σ H fun x H1 => tb σ H1 fun y H2 => R x y H2) {Q : Value → Shared → Prop} {f : Value → Value → Sem Value}
    (hf : ∀ v u s2 x y H2, Inv X pins σ H2 s2 → RelV x v → RelV y u → R x y H2 → wpAny (model X.prog X.w) X.A (f v u) Q X.xe s2) :
    wpAny (model X.prog X.w) X.A (eval a X.env) (fun v s₁ => wpAny (model X.prog X.w) X.A (eval b X.env) (fun u s₂ => wpAny (model X.prog X.w) X.A (f v u) Q X.xe s₂) X.xe s₁) X.xe s := by
  refine thn (ha pins s σ H _ I h) fun v s1 zq1 => ?_
  obtain ⟨x, H1, I1, r1, q1⟩ := zq1
  refine ?_
  refine thn (hb pins s1 σ H1 _ I1 q1) fun u s2 zq2 => ?_
  obtain ⟨y, H2, I2, r2, q2⟩ := zq2
  refine ?_
  exact hf v u s2 x y H2 I2 r1 r2 q2
theorem pe_op {op : Operator} {r : R2} (ho : OpR X (binaryOp op) r) (ha : PE X a ta) (hb : PE X b tb) : PE X (.BinOp a op b pos) (tOp r ta tb) := by
  intro pins s σ H Q I h
  exact wpAny_BinOp (binT ha hb I h fun v u s2 x y H2 I2 rx ry q => ho pins s2 σ H2 x y v u Q I2 rx ry q)
theorem pe_un {op : UnaryOp} {r : V → Hp → VK → Prop} (ho : UnR X (unaryOp op) r) (ha : PE X a ta) : PE X (.UnaryOp op a pos) (tUn r ta) := by
  intro pins s σ H Q I h
  refine UnaryOp_ (thn (ha pins s σ H _ I h) fun v s1 zq18 => ?_)
  obtain ⟨x, H1, I1, r1, q1⟩ := zq18
  exact ho pins s1 σ H1 x v Q I1 r1 q1
theorem opI {f : Value → Value → Sem Value} {C : Int → Int → Prop} {g : Int → Int → Int}
    (rule : ∀ (i j : Int) (t u : Tok) (s : Shared) (Q : Value → Shared → Prop) (E : Value → Shared → Prop), C i j → Q (.int (g i j) s.toks) { s with toks := s.toks + 1 } → wpAny (model X.prog X.w) X.A (f (.int i t) (.int j u)) Q E s) :
    OpR X f (rI C fun i j => .int (g i j)) := by
  intro pins s σ H x y v u Q I rx ry h
  obtain ⟨i, j, rfl, rfl, hc, q⟩ := h
  obtain ⟨t, rfl⟩ := rx
  obtain ⟨t', rfl⟩ := ry
  exact rule i j t t' s _ _ hc ⟨.int (g i j), H, I.tok _, ⟨_, rfl⟩, q⟩
theorem opI0 {f : Value → Value → Sem Value} {g : Int → Int → Int}
    (rule : ∀ (i j : Int) (t u : Tok) (s : Shared) (Q : Value → Shared → Prop) (E : Value → Shared → Prop), Q (.int (g i j) s.toks) { s with toks := s.toks + 1 } → wpAny (model X.prog X.w) X.A (f (.int i t) (.int j u)) Q E s) :
    OpR X f (rI0 fun i j => .int (g i j)) := by
  intro pins s σ H x y v u Q I rx ry h
  obtain ⟨i, j, rfl, rfl, q⟩ := h
  obtain ⟨t, rfl⟩ := rx
  obtain ⟨t', rfl⟩ := ry
  exact rule i j t t' s _ _ ⟨.int (g i j), H, I.tok _, ⟨_, rfl⟩, q⟩
theorem opB0 {f : Value → Value → Sem Value} {g : Int → Int → Bool}
    (rule : ∀ (i j : Int) (t u : Tok) (s : Shared) (Q : Value → Shared → Prop) (E : Value → Shared → Prop), Q (.bool (g i j)) s → wpAny (model X.prog X.w) X.A (f (.int i t) (.int j u)) Q E s) :
    OpR X f (rI0 fun i j => .bl (g i j)) := by
  intro pins s σ H x y v u Q I rx ry h
  obtain ⟨i, j, rfl, rfl, q⟩ := h
  obtain ⟨t, rfl⟩ := rx
  obtain ⟨t', rfl⟩ := ry
  exact rule i j t t' s _ _ ⟨.bl (g i j), H, I, rfl, q⟩
noncomputable def CMul (i j : Int) : Prop := (-(2 ^ 64) < i ∧ i < 2 ^ 64) ∨ (-(2 ^ 64) < j ∧ j < 2 ^ 64)
theorem CMul.ok {i j : Int} (h : CMul i j) : IntMulOk i j := by
  rcases h with ⟨h1, h2⟩ | ⟨h1, h2⟩
  · exact .of_left (intBits_le_64 h1 h2)
  · exact .of_right (intBits_le_64 h1 h2)
theorem op_add : OpR X (binaryOp .Add) (rI0 fun i j => .int (i + j)) := opI0 fun _ _ _ _ _ _ _ q => add_int q
theorem op_sub : OpR X (binaryOp .Sub) (rI0 fun i j => .int (i - j)) := opI0 fun _ _ _ _ _ _ _ q => sub_int q
theorem op_mul : OpR X (binaryOp .Mult) (rI CMul fun i j => .int (i * j)) := opI fun _ _ _ _ _ _ _ hc q => mul_int q hc.ok
theorem op_mod : OpR X (binaryOp .Mod) (rI (fun _ j => 0 < j) fun i j => .int (i % j)) := opI fun i j _ _ _ _ _ hc q => by
  have h1 : (0 : Int) < j := hc
  exact mod_int' (by omega) (by rw [Int.fmod_eq_emod_of_nonneg i (by omega)]; exact q)
theorem unI {f : Value → Sem Value} {g : Int → Int}
    (rule : ∀ (i : Int) (t : Tok) (s : Shared) (Q : Value → Shared → Prop) (E : Value → Shared → Prop), Q (.int (g i) s.toks) { s with toks := s.toks + 1 } → wpAny (model X.prog X.w) X.A (f (.int i t)) Q E s) :
    UnR X f (rU fun i => .int (g i)) := by
  intro pins s σ H x v Q I rx h
  obtain ⟨i, rfl, q⟩ := h
  obtain ⟨t, rfl⟩ := rx
  exact rule i t s _ _ ⟨.int (g i), H, I.tok _, ⟨_, rfl⟩, q⟩
theorem un_neg : UnR X (unaryOp .USub) (rU fun i => .int (-i)) := unI fun _ _ _ _ _ q => neg_int q
end
section
variable {X : Cx} {a b c : Expr} {ta tb tc : TE} {pos : Pos}
theorem fin_bl {pins : List (Addr × Obj)} {σ : St} {H : Hp} {s : Shared} {Q : VK} {k k' : Bool} (I : Inv X pins σ H s) (q : Q (.bl k) H) (e : k = k') : EP X pins σ Q (.bool k') s := by
  subst e
  exact ⟨.bl k, H, I, rfl, q⟩
theorem op_lt : OpR X (compareOp .Lt) (rI0 fun i j => .bl (decide (i < j))) := opB0 fun _ _ _ _ _ _ _ q => lt_int q
theorem op_le : OpR X (compareOp .LtE) (rI0 fun i j => .bl (decide (i ≤ j))) := opB0 fun _ _ _ _ _ _ _ q => le_int q
theorem op_gt : OpR X (compareOp .Gt) (rI0 fun i j => .bl (decide (j < i))) := opB0 fun _ _ _ _ _ _ _ q => gt_int q
theorem op_ge : OpR X (compareOp .GtE) (rI0 fun i j => .bl (decide (j ≤ i))) := opB0 fun _ _ _ _ _ _ _ q => ge_int q
theorem op_isN : OpR X (compareOp .Is) (fun x y H Q => y = .non ∧ Q (.bl (decide (x = .non))) H) := by
  intro pins s σ H x y v u Q I rx ry h
  obtain ⟨rfl, q⟩ := h
  cases ry
  refine is_none_gen (fin_bl I q ?_)
  cases x <;> first
    | (cases rx; rfl)
    | (obtain ⟨t, rfl⟩ := rx; rfl)
theorem op_notN : OpR X (compareOp .IsNot) (fun x y H Q => y = .non ∧ Q (.bl (!decide (x = .non))) H) := by
  intro pins s σ H x y v u Q I rx ry h
  obtain ⟨rfl, q⟩ := h
  cases ry
  refine isnot_none_gen (fin_bl I q ?_)
  cases x <;> first
    | (cases rx; rfl)
    | (obtain ⟨t, rfl⟩ := rx; rfl)
theorem OpR.or {f : Value → Value → Sem Value} {r r' : R2} (h : OpR X f r) (h' : OpR X f r') : OpR X f (fun x y H Q => r x y H Q ∨ r' x y H Q) := by
  intro pins s σ H x y v u Q I rx ry q
  rcases q with q | q
  · exact h pins s σ H x y v u Q I rx ry q
  · exact h' pins s σ H x y v u Q I rx ry q
theorem nomark (b : Expr) {op : CmpOp} (h : op ≠ .In := by decide) (h2 : op ≠ .NotIn := by decide) : behindInMarks op b = false := by
  have e1 : (op == CmpOp.In) = false := by cases op <;> first | rfl | exact absurd rfl h
  have e2 : (op == CmpOp.NotIn) = false := by cases op <;> first | rfl | exact absurd rfl h2
  cases b <;> simp [behindInMarks, e1, e2]
theorem pe_cmpR {op : CmpOp} {r : R2} (ho : OpR X (compareOp op) r) (ha : PE X a ta) (hb : PE X b tb) (hm : behindInMarks op b = false) : PE X (.Compare a [op] [b] pos) (tOp r ta tb) := by
  intro pins s σ H Q I h
  exact wpAny_Compare1 (binT ha hb I h fun v u s2 x y H2 I2 rx ry q => ho pins s2 σ H2 x y v u Q I2 rx ry q) hm
noncomputable def tTest (t : TE) : TT := fun σ H Q => t σ H fun x H' => ∃ k, x = .bl k ∧ Q k H'
theorem pt_cmpR {op : CmpOp} {r : R2} (ho : OpR X (compareOp op) r) (ha : PE X a ta) (hb : PE X b tb) (hm : behindInMarks op b = false) : PT X (.Compare a [op] [b] pos) (tTest (tOp r ta tb)) := by
  intro pins s σ H Q I h
  refine wpAny_isTrue_Compare1 (thn (ha pins s σ H _ I h) fun v s1 ⟨x, H1, I1, r1, q1⟩ => thn (hb pins s1 σ H1 _ I1 q1) fun u s2 ⟨y, H2, I2, r2, q2⟩ =>
    thn (ho pins s2 σ H2 x y v u _ I2 r1 r2 q2) fun c s3 ⟨z, H3, I3, r3, k, e, q3⟩ => ?_) hm
  subst e
  cases r3
  exact wpAny_truthy_bool ⟨H3, I3, q3⟩
noncomputable def tChain (r r' : R2) (ta tb tc : TE) : TE := fun σ H Q => ta σ H fun x H1 => tb σ H1 fun y H2 => r x y H2 fun z H3 => ∃ k, z = .bl k ∧
  (if k = true then tc σ H3 fun w' H4 => r' y w' H4 Q else Q (.bl false) H3)
theorem pe_chain {op op' : CmpOp} {r r' : R2} (ho : OpR X (compareOp op) r) (ho' : OpR X (compareOp op') r') (ha : PE X a ta) (hb : PE X b tb) (hc : PE X c tc)
    (hm : lastMarks [op, op'] [b, c] = false := by with_unfolding_all rfl) : PE X (.Compare a [op, op'] [b, c] pos) (tChain r r' ta tb tc) := by
  intro pins s σ H Q I h
  refine Compare_chain (thn (ha pins s σ H _ I h) fun v s1 ⟨x, H1, I1, r1, q1⟩ => chain_link (thn (hb pins s1 σ H1 _ I1 q1) fun u s2 ⟨y, H2, I2, r2, q2⟩ =>
    thn (ho pins s2 σ H2 x y v u _ I2 r1 r2 q2) fun d s3 ⟨z, H3, I3, r3, k, e, q3⟩ => ?_)) hm
  subst e
  cases r3
  refine wpAny_truthy_bool ?_
  cases k with
  | false => exact ite_ff ⟨.bl false, H3, I3, rfl, q3⟩
  | true => exact ite_tt (chain_last (thn (hc pins s3 σ H3 _ I3 q3) fun w' s4 ⟨z', H4, I4, r4, q4⟩ => ho' pins s4 σ H4 y z' u w' Q I4 r2 r4 q4))
theorem line63 : (sizeLine : Nat) < 2 ^ 63 := by rw [sizeLine_eq]; decide
theorem vals1 {x : V} {us : List Value} (r : Vals [x] us) : ∃ u, us = [u] ∧ RelV x u := by
  cases r with
  | cons r1 r2 => cases r2; exact ⟨_, rfl, r1⟩
theorem vals2 {x y : V} {us : List Value} (r : Vals [x, y] us) : ∃ u w', us = [u, w'] ∧ RelV x u ∧ RelV y w' := by
  cases r with
  | cons r1 r2 =>
    cases r2 with
    | cons r3 r4 => cases r4; exact ⟨_, _, rfl, r1, r3⟩
theorem call_max2 (hc : X.calm = true) : CallR X (.builtin "max") (fun xs H Q => ∃ i j, xs = [.int i, .int j] ∧ Q (.int (if j > i then j else i)) H) := by
  intro pins s σ H xs us Q I r h
  obtain ⟨i, j, rfl, q⟩ := h
  obtain ⟨u, w', rfl, ⟨t, rfl⟩, ⟨t', rfl⟩⟩ := vals2 r
  refine max_two_ints (I.ok.hd hc) fun h' tk k => ⟨_, H, I.kept k, ?_, q⟩
  by_cases hj : j > i
  · rw [if_pos hj, if_pos hj]; exact ⟨_, rfl⟩
  · rw [if_neg hj, if_neg hj]; exact ⟨_, rfl⟩
theorem call_min2 (hc : X.calm = true) : CallR X (.builtin "min") (fun xs H Q => ∃ i j, xs = [.int i, .int j] ∧ Q (.int (if j < i then j else i)) H) := by
  intro pins s σ H xs us Q I r h
  obtain ⟨i, j, rfl, q⟩ := h
  obtain ⟨u, w', rfl, ⟨t, rfl⟩, ⟨t', rfl⟩⟩ := vals2 r
  refine min_two_ints (I.ok.hd hc) fun h' tk k => ⟨_, H, I.kept k, ?_, q⟩
  by_cases hj : j < i
  · rw [if_pos hj, if_pos hj]; exact ⟨_, rfl⟩
  · rw [if_neg hj, if_neg hj]; exact ⟨_, rfl⟩
theorem call_int1 : CallR X (.type "int") (fun xs H Q => (∃ i, xs = [.int i] ∧ Q (.int i) H) ∨ ∃ k, xs = [.bl k] ∧ Q (.int (if k then 1 else 0)) H) := by
  intro pins s σ H xs us Q I r h
  rcases h with ⟨i, rfl, q⟩ | ⟨k, rfl, q⟩
  · obtain ⟨u, rfl, t, rfl⟩ := vals1 r
    exact call_int_int ⟨.int i, H, I, ⟨_, rfl⟩, q⟩
  · obtain ⟨u, rfl, r1⟩ := vals1 r
    cases r1
    exact call_int_bool ⟨.int (if k then 1 else 0), H, I.tok _, ⟨_, rfl⟩, q⟩
end
end L2
namespace L2
open PySem PySem.Spec PyProof.Rows
structure ObjM (h : Heap) (x dx C : Addr) (mA : Str → Option Value) : Prop where
  obj : h.get? x = some (PySem.W.instObj C dx)
  ns : h.Ns1 dx mA
  ne : dx ≠ x
section
variable {prog : Program} {w : World} {A : Around} {E : Value → Shared → Prop} {s : Shared} {K : PySem.W.Frag} {x dx C f : Addr} {mA : Str → Option Value} {name : Str} {v : Value}
end
section
variable {P : Program} {w : World} {H H' : Hp} {h h' : Heap} {a C dx : Addr} {fs fs' : List (Str × V)}
end
structure Cls (K : PySem.W.Frag) (C : Addr) : Prop where
  pg : PySem.W.plainGet K C Str.empty = true
  hd : PySem.W.hasDictIn K C = true
  po : PySem.W.plainOver K C = true
  sa : PySem.W.findIn K (.ref C) "__setattr__" = some (some (.builtin "object.__setattr__"))
structure Con (K : PySem.W.Frag) (C : Addr) (f : Str) (v : V) (u : Value) : Prop where
  at_ : PySem.W.findIn K (.ref C) f = some (some u)
  rel : RelV v u
  get : PySem.W.specialIn K u "__get__" = some none
  cp : PySem.W.copiedNames.contains f = false
structure Meth (K : PySem.W.Frag) (C : Addr) (m : Str) (f : Addr) : Prop where
  at_ : PySem.W.findIn K (.ref C) m = some (some (.ref f))
  fn : PySem.W.isFn K (.ref f) = true
  kp : PySem.W.keepIn K (.ref f) = true
section
variable {X : Cx} {pins : List (Addr × Obj)} {σ : St} {H : Hp} {s : Shared} {a C dx : Addr} {fs : List (Str × V)} {f : Str} {v : V} {A : Around} {E : Value → Shared → Prop}
end
section
variable {X : Cx} {o e value : Expr} {f : Str} {pos pos' tpos : Pos} {ta tv : TE}
end
section
variable {X : Cx} {pins : List (Addr × Obj)} {σ : St} {H : Hp} {s : Shared} {A : Around} {E : Value → Shared → Prop} {Q : Value → Shared → Prop} {c : Value} {b : Bool}
inductive TyOf (K : PySem.W.Frag) (H : Hp) : V → Value → Prop where
  | non : TyOf K H .non (.type "NoneType")
  | bl (x : Bool) : TyOf K H (.bl x) (.type "bool")
  | int (i : Int) : TyOf K H (.int i) (.type "int")
  | str (x : Str) : TyOf K H (.str x) (.type "str")
  | flt (x : UInt64) : TyOf K H (.flt x) (.type "float")
  | lst {a : Addr} {xs : List V} (e : H a = some (.lst xs)) : TyOf K H (.ref a) (.type "list")
  | frz {a : Addr} {o : Obj} {xs : List V} (e : H a = some (.frz o (.lst xs))) : TyOf K H (.ref a) (.type "list")
  | tup {a : Addr} {xs : List V} (e : H a = some (.tup xs)) : TyOf K H (.ref a) (.type "tuple")
  | dK {a : Addr} {kvs : List (Key × V)} (e : H a = some (.dK kvs)) : TyOf K H (.ref a) (.type "dict")
  | dT {a : Addr} {kvs : List (List Key × V)} (e : H a = some (.dT kvs)) : TyOf K H (.ref a) (.type "dict")
  | ins {a C dx : Addr} {fs : List (Str × V)} (e : H a = some (.ins C dx fs)) (cl : Cls K C) (ha : PySem.W.findIn K (.ref C) "__class__" = some (some (.builtin "object.__class__")))
      (hn : PySem.W.specialIn K (.builtin "object.__class__") "__get__" = some (some (.builtin "getset_descriptor.__get__"))) (htk : PySem.W.takesIn K (.builtin "object.__class__") = some true)
      (hm : PySem.W.mroIn K C (.type "object") = some true) : TyOf K H (.ref a) (.ref C)
end
end L2
namespace L2
open PySem PySem.Spec PyProof.Rows
structure Room (k : Nat) (A : Around) : Prop where
  hd : A.handled = none
  dp : A.depth + 3 * k + 5 < recursionLimit
  un : A.units + 16 * k + 200 < cLine
  gd : A.guards = some []
theorem Room.mono {j k : Nat} {A : Around} (r : Room k A) (h : j ≤ k) : Room j A := ⟨r.hd, by have := r.dp; omega, by have := r.un; omega, r.gd⟩
theorem Room.deeper {k : Nat} {A : Around} (r : Room (k + 1) A) (env : Env) : Room k (A.deeper env) :=
  ⟨r.hd, by have := r.dp; show A.depth + 1 + 3 * k + 5 < _; omega, by have := r.un; show A.units + 3 + 16 * k + 200 < _; omega, r.gd⟩
theorem Room.depth {k : Nat} {A : Around} (r : Room k A) : A.depth < recursionLimit := by have := r.dp; omega
noncomputable def tNil : TA := fun _ H Q => Q [] H
noncomputable def tCons (ta : TE) (tr : TA) : TA := fun σ H Q => ta σ H fun x H1 => tr σ H1 fun xs H2 => Q (x :: xs) H2
section
variable {X : Cx} {e : Expr} {es : List Expr} {te : TE} {t : TA} {pos : Pos}
theorem pa_nil : PA X [] tNil := fun _ _ _ _ H Q I h => Calls.spliced_nil ⟨[], H, I, .nil, h⟩
theorem pa_cons (ha : PE X e te) (hr : PA X es t) (hs : starEach (e :: es) X.env = (false, eval e X.env) :: starEach es X.env := by rfl) : PA X (e :: es) (tCons te t) := by
  intro pos pins s σ H Q I h
  rw [hs]
  show wpAny _ _ (spliced ((false, eval e X.env) :: backTo pos (starEach es X.env))) _ _ s
  refine Calls.spliced_cons (thn (ha pins s σ H _ I h) fun u s1 zq19 => ?_)
  obtain ⟨x, H1, I1, r1, q1⟩ := zq19
  refine ?_
  refine thn (hr pos pins s1 σ H1 _ I1 q1) fun us s2 zq3 => ?_
  obtain ⟨xs, H2, I2, r2, q2⟩ := zq3
  exact ⟨x :: xs, H2, I2, .cons r1 r2, q2⟩
noncomputable def tTup (t : TA) : TE := fun σ H Q => t σ H fun xs H1 => xs.length ≤ sizeLine ∧ ∀ p, H1 p = none → Q (.ref p) (upd H1 p (.tup xs))
noncomputable def tLst (t : TA) : TE := fun σ H Q => t σ H fun xs H1 => xs.length ≤ sizeLine ∧ ∀ p, H1 p = none → Q (.ref p) (upd H1 p (.lst xs))
theorem pe_tup {x1} (h : PA X es t) : PE X (.Tuple es x1 pos) (tTup t) := by
  intro pins s σ H Q I hq
  refine wpAny_Tuple_spliced (thn (h pos pins s σ H _ I hq) fun us s1 ⟨xs, H1, I1, r, z, q⟩ => ⟨by rw [← r.length]; exact z, ?_⟩)
  have hf : H1 s1.heap.objs.size = none := I1.hok.fresh (Nat.le_refl _)
  refine ⟨.ref s1.heap.objs.size, upd H1 s1.heap.objs.size (.tup xs), I1.laid (t' := s1.toks) (fun b u e => Heap.get?_push_of_some _ e) (Nat.le_refl _) ?_, rfl, q _ hf⟩
  exact ⟨z, us, r, ⟨_, Heap.get?_push_size _ rfl, rfl, _, rfl⟩⟩
theorem pe_lst (h : PA X es t) : PE X (.List es pos) (tLst t) := by
  intro pins s σ H Q I hq
  refine wpAny_List_spliced (thn (h pos pins s σ H _ I hq) fun us s1 ⟨xs, H1, I1, r, z, q⟩ => ⟨by rw [← r.length]; exact z, ?_⟩)
  have hf : H1 s1.heap.objs.size = none := I1.hok.fresh (Nat.le_refl _)
  refine ⟨.ref s1.heap.objs.size, upd H1 s1.heap.objs.size (.lst xs), I1.laid (t' := s1.toks) (fun b u e => Heap.get?_push_of_some _ e) (Nat.le_refl _) ?_, rfl, q _ hf⟩
  exact ⟨z, us, 0, r, Heap.get?_push_size _ rfl⟩
end
noncomputable abbrev Sp := List V → Hp → VK → XK → Prop
noncomputable abbrev CXT := List Env → Hp → Shared → XK → Value → Shared → Prop
structure Env0 (P : Program) (w : World) (K : PySem.W.Frag) (mg : Str → Option Value) (base : Heap) (A : Around) (outer : List Env) (s : Shared) (H : Hp) : Prop where
  frames : A.frames = some outer
  mod : Mod K mg base
  bs : ∀ b o, base.get? b = some o → s.heap.get? b = some o ∧ H b = none
  bsz : base.objs.size ≤ s.heap.objs.size
  funs : s.heap.FunFrames base outer
  frf : ∀ b ∈ frs outer, H b = none
  hok : HOk P w H s.heap
  bare : AllBare s.gens
noncomputable def CE (outer : List Env) (P : Program) (w : World) (H : Hp) (s : Shared) (Q : VK) (u : Value) (s' : Shared) : Prop :=
  ∃ v H', s'.os = s.os ∧ AllBare s'.gens ∧ Un (frs outer) [] H H' s.heap s'.heap ∧ HOk P w H' s'.heap ∧ RelV v u ∧ Q v H'
noncomputable def CR (CX : CXT) (outer : List Env) (P : Program) (w : World) (H : Hp) (s : Shared) (Q : VK) (E : XK) (r : Result) (s' : Shared) : Prop :=
  match r with
  | .ok (.ret u) => CE outer P w H s Q u s'
  | .ok _ => False
  | .error e => CX outer H s E e s'
structure FnOk (P : Program) (w : World) (K : PySem.W.Frag) (mg : Str → Option Value) (base : Heap) (CX : CXT) (k : Nat) (f : Addr) (fd : FuncData) (ps : List Str) (sp : Sp) : Prop where
  len : ∀ vs H Q E, sp vs H Q E → vs.length = ps.length
  run : ∀ (A : Around) (outer : List Env) (s : Shared) (H : Hp) (args : Args) (us : List Value) (vs : List V) (Q : VK) (E : XK), Room k A → Env0 P w K mg base A outer s H → BindsTo s fd args (ps.zip us) → Vals vs us → sp vs H Q E →
    codeAny (model P w) A (.call (.ref f) args) (CR CX outer P w H s Q E) s
section
variable {X : Cx} {pins : List (Addr × Obj)} {σ : St} {H : Hp} {s s' : Shared}
theorem Inv.env0 (I : Inv X pins σ H s) : Env0 X.prog X.w X.K X.mg X.base X.A X.stack s H :=
  ⟨I.ok.frames, I.ok.mod, I.bs, Nat.le_trans I.ok.bsz I.sz, I.stack, I.stkFree, I.hok, I.bare⟩
theorem Inv.after {Q : VK} {u : Value} (I : Inv X pins σ H s) (h : CE X.stack X.prog X.w H s Q u s') : EP X pins σ Q u s' := by
  obtain ⟨v, H', os, bare, un, hok, r, q⟩ := h
  obtain ⟨hh, g, d, t, os'⟩ := s'
  obtain rfl : os' = s.os := os
  exact ⟨v, H', I.call (h' := hh) (g' := g) (d' := d) (t' := t) (ch := []) un hok bare (fun b z => absurd z (by simp)), r, q⟩
end
noncomputable def tCall (sp : Sp) (dvs : List V) (E : XK) (t : TA) : TE := fun σ H Q => t σ H fun vs H1 => sp (vs ++ dvs) H1 Q E
noncomputable def Binds (K : PySem.W.Frag) (fd : FuncData) (ps : List Str) (ds : List Value) : Prop :=
  ∀ (s : Shared) (us : List Value), K.In s.heap → (us ++ ds).length = ps.length → BindsTo s fd ⟨us, []⟩ (ps.zip (us ++ ds))
theorem Binds.all {K : PySem.W.Frag} {fd : FuncData} {ps : List Str} (h : ∀ us : List Value, us.length = ps.length → bindArgs fd ⟨us, []⟩ = pure (ps.zip us)) : Binds K fd ps [] := fun s us _ hl => by
  rw [List.append_nil] at hl ⊢
  exact .of_eq (h us hl)
noncomputable def Passes (CX : CXT) (X : Cx) (E : XK) : Prop := ∀ (pins : List (Addr × Obj)) (σ : St) (H : Hp) (s : Shared) (e : Value) (s' : Shared), Inv X pins σ H s → CX X.stack H s E e s' → X.xe e s'
section
variable {X : Cx} {CX : CXT} {k : Nat} {f C : Addr} {fd : FuncData} {ps : List Str} {sp : Sp} {dvs : List V} {ds : List Value} {E : XK} {x m : Str} {p pos apos : Pos} {e o : Expr} {es : List Expr} {ta : TE} {t : TA}
theorem run_fn {pins : List (Addr × Obj)} {σ : St} {H : Hp} {s : Shared} {Q : VK} {us : List Value} {vs : List V} (F : FnOk X.prog X.w X.K X.mg X.base CX k f fd ps sp) (hr : Room k X.A) (hb : Binds X.K fd ps ds) (hd : Vals dvs ds) (hx : Passes CX X E)
    (I : Inv X pins σ H s) (r : Vals vs us) (h : sp (vs ++ dvs) H Q E) : wpAny (model X.prog X.w) X.A (call (.ref f) us) (EP X pins σ Q) X.xe s := by
  have r2 : Vals (vs ++ dvs) (us ++ ds) := r.append hd
  have hl : (us ++ ds).length = ps.length := by rw [← r2.length]; exact F.len _ _ _ _ h
  refine wpAny_call (codeAny_mono (F.run X.A X.stack s H ⟨us, []⟩ (us ++ ds) (vs ++ dvs) Q E hr I.env0 (hb s us I.kIn hl) r2 h) fun r s' hq => ?_)
  cases r with
  | error e => exact hx pins σ H s e s' I hq
  | ok fl =>
    cases fl with
    | ret u => exact I.after hq
    | next => exact False.elim hq
    | brk => exact False.elim hq
    | cont => exact False.elim hq
theorem pe_call (F : FnOk X.prog X.w X.K X.mg X.base CX k f fd ps sp) (hr : Room k X.A) (hg : Gl X x) (hm : X.mg x = some (.ref f)) (hk : PySem.W.keepIn X.K (.ref f) = true) (hb : Binds X.K fd ps ds) (hd : Vals dvs ds) (hx : Passes CX X E)
    (ha : PA X (e :: es) t) (hdb : (x == ("__debug__" : Str)) = false := by decide) (he : starEach (e :: es) X.env = (false, eval e X.env) :: starEach es X.env := by rfl) (hpl : (backTo pos (starEach es X.env)).any (·.1) = false := by rfl) :
    PE X (.Call (.Name x p) (e :: es) [] pos) (tCall sp dvs E t) := by
  intro pins s σ H Q I h
  refine wpAny_Call_Name_kw (ld_glob I hg hm ?_ hdb)
  refine PySem.W.callWith_K (h₀ := X.base) I.ok.mod.kin hk (thn (ha pos pins s σ H _ I h) fun us s1 ⟨vs, H1, I1, r, q⟩ => ⟨I1.kIn, ?_⟩) he hpl
  exact run_fn F hr hb hd hx I1 r q
structure Mk (K : PySem.W.Frag) (C f : Addr) : Prop where
  makes : PySem.W.makesIn K C = true
  init : PySem.W.findIn K (.ref C) "__init__" = some (some (.ref f))
  fn : PySem.W.isFn K (.ref f) = true
  kp : PySem.W.keepIn K (.ref C) = true
end
section
variable {X : Cx} {CX : CXT} {k : Nat} {f C : Addr} {fd : FuncData} {ps ks : List Str} {sp : Sp} {E : XK} {x m : Str} {p pos apos kpos : Pos} {e o : Expr} {es : List Expr} {kws : List Keyword} {te ta : TE} {t tk : TA} {nm : Option Str}
structure KBinds (K : PySem.W.Frag) (fd : FuncData) (ps ks : List Str) (g : List Value → List Value → List Value) (gV : List V → List V → List V) : Prop where
  to : ∀ (s : Shared) (us ws : List Value), K.In s.heap → (g us ws).length = ps.length → BindsTo s fd ⟨us, ks.zip ws⟩ (ps.zip (g us ws))
  rel : ∀ {vs : List V} {us : List Value} {zs : List V} {ws : List Value}, Vals vs us → Vals zs ws → Vals (gV vs zs) (g us ws)
variable {g : List Value → List Value → List Value} {gV : List V → List V → List V}
end
structure FnScope (N P : List Str) (sc : Scope) : Prop where
  kind : sc.kind = .function
  co : sc.isCoroutine = false
  gen : sc.isGenerator = false
  nd : N.Nodup
  pre : N.take P.length = P
  par : ∀ x ∈ P, sc.names.lookup x = some .local ∨ sc.names.lookup x = some .cell
  nofree : ∀ y ∈ sc.names, y.2 ≠ .free
theorem bindL_out {kindOf : Str → Option NameKind} {x : Str} : ∀ {binds : List (Str × Value)} {m : Str → Option Value}, (∀ v, (x, v) ∉ binds) → bindL kindOf binds m x = m x
  | [], _, _ => rfl
  | (n, v) :: r, m, h => by
    unfold bindL
    rw [bindL_out fun w hw => h w (List.mem_cons_of_mem _ hw)]
    split
    · have : x ≠ n := by rintro rfl; exact h v List.mem_cons_self
      simp [this]
    · rfl
theorem bindC_out {kindOf : Str → Option NameKind} {x : Str} : ∀ {binds : List (Str × Value)} {m : Str → Option Value}, (∀ v, (x, v) ∉ binds) → bindC kindOf binds m x = m x
  | [], _, _ => rfl
  | (n, v) :: r, m, h => by
    unfold bindC
    rw [bindC_out fun w hw => h w (List.mem_cons_of_mem _ hw)]
    split
    · rfl
    · have : x ≠ n := by rintro rfl; exact h v List.mem_cons_self
      simp [this]
theorem bindL_get {kindOf : Str → Option NameKind} {x : Str} {v : Value} : ∀ {P : List Str} {vs : List Value} {i : Nat} {m : Str → Option Value}, P.Nodup → P[i]? = some x → vs[i]? = some v → kindOf x = some .local →
    bindL kindOf (P.zip vs) m x = some v
  | [], _, _, _, _, h, _, _ => by simp at h
  | _ :: _, [], _, _, _, _, h, _ => by simp at h
  | p :: P, w :: vs, 0, m, nd, h1, h2, hk => by
    simp at h1 h2; subst h1; subst h2
    show bindL kindOf ((p, w) :: P.zip vs) m p = _
    unfold bindL
    rw [bindL_out fun v hv => (List.nodup_cons.mp nd).1 (List.of_mem_zip hv).1, if_pos hk]
    simp
  | p :: P, w :: vs, i + 1, m, nd, h1, h2, hk => by
    show bindL kindOf ((p, w) :: P.zip vs) m x = _
    unfold bindL
    exact bindL_get (i := i) (List.nodup_cons.mp nd).2 (by simpa using h1) (by simpa using h2) hk
theorem bindC_get {kindOf : Str → Option NameKind} {x : Str} {v : Value} : ∀ {P : List Str} {vs : List Value} {i : Nat} {m : Str → Option Value}, P.Nodup → P[i]? = some x → vs[i]? = some v → kindOf x ≠ some .local →
    bindC kindOf (P.zip vs) m x = some v
  | [], _, _, _, _, h, _, _ => by simp at h
  | _ :: _, [], _, _, _, _, h, _ => by simp at h
  | p :: P, w :: vs, 0, m, nd, h1, h2, hk => by
    simp at h1 h2; subst h1; subst h2
    show bindC kindOf ((p, w) :: P.zip vs) m p = _
    unfold bindC
    rw [bindC_out fun v hv => (List.nodup_cons.mp nd).1 (List.of_mem_zip hv).1, if_neg hk]
    simp
  | p :: P, w :: vs, i + 1, m, nd, h1, h2, hk => by
    show bindC kindOf ((p, w) :: P.zip vs) m x = _
    unfold bindC
    exact bindC_get (i := i) (List.nodup_cons.mp nd).2 (by simpa using h1) (by simpa using h2) hk
noncomputable def start (N : List Str) (vs : List V) : St := vs.map some ++ List.replicate (N.length - vs.length) none
noncomputable def cxOf (CX : CXT) (P : Program) (w : World) (K : PySem.W.Frag) (mg : Str → Option Value) (base : Heap) (N : List Str) (qual : Str) (scope : Scope) (f : Addr) (cd : Value) (A : Around) (outer : List Env) (s : Shared) (H : Hp) (E : XK) : Cx where
  prog := P
  w := w
  K := K
  mg := mg
  base := base
  A := A.deeper (envOfC qual scope s.heap.objs.size f cd)
  N := N
  s₀ := s
  H₀ := H
  env := envOfC qual scope s.heap.objs.size f cd
  outer := outer
  stack := envOfC qual scope s.heap.objs.size f cd :: outer
  ex := []
  calm := true
  fn := fun _ => true
  pn := []
  xe := fun e s' => wpAny (model P w) (A.deeper (envOfC qual scope s.heap.objs.size f cd)) (leaving (envOfC qual scope s.heap.objs.size f cd) e) (fun _ s'' => CX outer H s E e s'') (fun e' s'' => CX outer H s E e' s'') s'
theorem cell_has {sc : Scope} {n : Nat} {x : Str} (h : sc.names.lookup x = some .cell) : ∃ c, (cellsFrom n sc.names []).lookup x = some c := by
  have q := PySem.W.cellsFrom_some sc.names n [] (.inl h)
  exact Option.isSome_iff_exists.mp q
theorem inv_start {CX : CXT} {P : Program} {w : World} {K : PySem.W.Frag} {mg : Str → Option Value} {base : Heap} {N ps : List Str} {qual : Str} {scope : Scope} {f : Addr} {cd : Value} {A : Around} {outer : List Env} {s s1 : Shared} {H : Hp} {E : XK} {us : List Value} {vs : List V}
    (S : FnScope N ps scope) (hd : A.handled = none) (e0 : Env0 P w K mg base A outer s H) (hl : vs.length = ps.length) (r : Vals vs us)
    (x : InCallC s s.heap.objs.size (bindL (envOfC qual scope s.heap.objs.size f cd).kindOf (ps.zip us) fun _ => none) (cellsFrom (s.heap.objs.size + 1) scope.names []) (bindC (envOfC qual scope s.heap.objs.size f cd).kindOf (ps.zip us) fun _ => none) s1) :
    Inv (cxOf CX P w K mg base N qual scope f cd A outer s H E) [] (start N vs) H s1 := by
  have hpl : ps.length ≤ N.length := by have := congrArg List.length S.pre; rw [List.length_take] at this; omega
  obtain ⟨h1, tk, rfl, hk⟩ := x.done
  have noA : ∀ b : Addr, b ∉ (cxOf CX P w K mg base N qual scope f cd A outer s H E).ex := fun b z => absurd (show b ∈ ([] : List Addr) from z) (by simp)
  refine ⟨⟨e0.mod, S.kind, rfl, rfl, Nat.le_refl _, fun y z c h1 h2 => ?_, fun y hy => ?_, fun y c _ h => ?_, fun _ => hd, Around.frames_deeper e0.frames, .inr ⟨rfl, rfl⟩, fun b z => absurd z (noA b), e0.bs, e0.bsz, fun b _ _ => noA b, fun b z => absurd z (noA b), e0.funs, e0.frf⟩,
    rfl, e0.bare, Un.kept hk, ⟨_, x.toInCall.ns, fun i y v h1 h2 h3 => ?_⟩, fun y c h => ⟨_, x.cell y c h⟩, e0.hok.fresh (Nat.le_refl _), fun y c h => ?_, fun p hp => absurd (show p ∈ ([] : List (Addr × Obj)) from hp) (by simp), e0.hok.kept hk, ?_⟩
  · exact name_of_addr x.apart (PySem.mem_of_lookup h1) (PySem.mem_of_lookup h2)
  · have hy : scope.names.lookup y = some .cell ∨ scope.names.lookup y = some .free := hy
    rcases hy with hy | hy
    · exact cell_has hy
    · exact absurd rfl (S.nofree _ (PySem.mem_of_lookup hy))
  · exact Nat.le_of_lt (x.above y c (PySem.mem_of_lookup h))
  · have hi : i < vs.length := by
      unfold start at h2
      by_cases hi : i < vs.length
      · exact hi
      · rw [List.getElem?_append_right (by simpa using hi)] at h2
        rw [List.getElem?_replicate] at h2
        split at h2 <;> cases h2
    have ha : vs[i]? = some v := by
      unfold start at h2
      rw [List.getElem?_append_left (by simpa using hi), List.getElem?_map] at h2
      cases e : vs[i]? with
      | none => rw [e] at h2; cases h2
      | some a => rw [e] at h2; cases h2; rfl
    obtain ⟨u, hu, rv⟩ := r.get ha
    have hp : ps[i]? = some y := by
      rw [← S.pre, List.getElem?_take_of_lt (by omega)]; exact h1
    have ndP : ps.Nodup := by rw [← S.pre]; exact S.nd.sublist (List.take_sublist _ _)
    refine ⟨u, rv, ?_⟩
    rcases S.par y (List.mem_of_getElem? hp) with k | k
    · exact .inl ⟨k, bindL_get ndP hp hu k⟩
    · obtain ⟨c, e⟩ := cell_has (n := s.heap.objs.size + 1) k
      refine .inr ⟨.inl k, c, e, ?_⟩
      have q := x.cell y c e
      rw [bindC_get ndP hp hu (by show scope.names.lookup y ≠ _; rw [k]; decide)] at q
      exact q
  · exact e0.hok.fresh (Nat.le_of_lt (x.above y c (PySem.mem_of_lookup h)))
  · unfold start
    show _ = N.length
    rw [List.length_append, List.length_map, List.length_replicate]
    omega
theorem fn_of {CX : CXT} {P : Program} {w : World} {K : PySem.W.Frag} {mg : Str → Option Value} {base : Heap} {k : Nat} {f : Addr} {name qual : Str} {params : Arguments} {body : List Stmt} {scope : Scope} {dV kV doc pm cdv ct oc : Value} {an od : Option Addr}
    {osl : Array (Option Value)} {N ps : List Str} {sp : Sp} (lk : K.lookup f = some ⟨oc, od, .func (PySem.W.fnOf name qual params body scope dV kV doc pm an cdv ct), osl⟩) (hcd : PySem.W.codeIn K cdv qual = true) (S : FnScope N ps scope)
    (len : ∀ vs H Q E, sp vs H Q E → vs.length = ps.length)
    (hbody : ∀ (A : Around) (outer : List Env) (s : Shared) (H : Hp) (vs : List V) (Q : VK) (E : XK), Room k (A.deeper (envOfC qual scope s.heap.objs.size f cdv)) → sp vs H Q E →
      ∃ t, PSs (cxOf CX P w K mg base N qual scope f cdv A outer s H E) body t ∧ t { nx := fun _ H' => Q .non H', rt := Q } (start N vs) H) :
    FnOk P w K mg base CX (k + 1) f (PySem.W.fnOf name qual params body scope dV kV doc pm an cdv ct) ps sp := by
  refine ⟨len, fun A outer s H args us vs Q E hr e0 hb r hsp => ?_⟩
  have hl := len _ _ _ _ hsp
  have KX : K.In s.heap := e0.mod.kin.keeps fun b o e => (e0.bs b o e).1
  have lim : s.heap.NoLimit := e0.mod.nolimit.keeps fun b o e => (e0.bs b o e).1
  have hkind : ∀ y ∈ ps.zip us, scope.names.lookup y.1 = some .local ∨ (scope.names.lookup y.1 = some .cell ∧ ((cellsFrom (s.heap.objs.size + 1) scope.names []).lookup y.1).isSome = true) := fun ⟨n, v⟩ hy => by
    rcases S.par n (List.of_mem_zip hy).1 with q | q
    · exact .inl q
    · exact .inr ⟨q, PySem.W.cellsFrom_some _ _ _ (.inl q)⟩
  refine codeAny_call_function hr.depth (KX _ _ lk) rfl S.co S.gen rfl (PySem.W.codeRec_of KX hcd) (hb _ _ _ _ ?_)
  refine wpAny_newFunctionEnv_cells S.kind hkind fun env he s1 x => ?_
  subst he
  refine ⟨lim.keeps x.toInCall.keep, codeAny_func ?_⟩
  obtain ⟨t, ht, hq⟩ := hbody A outer s H vs Q E (hr.deeper _) hsp
  have I : Inv (cxOf CX P w K mg base N qual scope f cdv A outer s H E) [] (start N vs) H s1 := inv_start S hr.hd e0 hl r x
  refine wpAny_mono (ht [] s1 (start N vs) H _ I hq) (fun fl s' hs => ?_) fun e s' hs => hs
  have fin : ∀ {σ' : St} {H' : Hp} {v : V} {u : Value}, Inv (cxOf CX P w K mg base N qual scope f cdv A outer s H E) [] σ' H' s' → RelV v u → Q v H' → CE outer P w H s Q u s' :=
    fun {σ' H' v u} J rv q => ⟨v, H', J.os, J.bare, J.base, J.hok, rv, q⟩
  cases fl with
  | ret u =>
    obtain ⟨v, σ', H', J, rv, q⟩ := hs
    exact fin J rv q
  | next =>
    obtain ⟨σ', H', J, q⟩ := hs
    exact fin (v := V.non) (u := Value.none) J rfl q
  | brk =>
    obtain ⟨_, _, _, q⟩ := hs
    exact False.elim q
  | cont =>
    obtain ⟨_, _, _, q⟩ := hs
    exact False.elim q
end L2
namespace L2
open PySem PySem.Spec PyProof.Rows
section
variable {X : Cx} {x : Str} {p pos : Pos} {e : Expr} {es : List Expr} {t : TA} {id T : String} {r : List V → Hp → VK → Prop}
noncomputable def tCB (r : List V → Hp → VK → Prop) (t : TA) : TE := fun σ H Q => t σ H fun vs H1 => r vs H1 Q
theorem pe_callB (hc : CallR X (.builtin id) r) (hg : Gl X x) (hm : X.mg x = none) (hv : bootBuiltins x = some (.builtin id)) (ha : PA X (e :: es) t) (hn : x ≠ "__name__" := by decide) (hdb : (x == ("__debug__" : Str)) = false := by decide)
    (he : starEach (e :: es) X.env = (false, eval e X.env) :: starEach es X.env := by rfl) (hpl : (backTo pos (starEach es X.env)).any (·.1) = false := by rfl) : PE X (.Call (.Name x p) (e :: es) [] pos) (tCB r t) := by
  intro pins s σ H Q I h
  refine wpAny_Call_Name_kw (ld_blt I hg hm hv ?_ hn hdb)
  exact PyProof.Rows.callWith_builtin1 (thn (ha pos pins s σ H _ I h) fun us s1 ⟨vs, H1, I1, r1, q1⟩ => hc pins s1 σ H1 vs us Q I1 r1 q1) he hpl
theorem pe_callTy (hc : CallR X (.type T) r) (hg : Gl X x) (hm : X.mg x = none) (hv : bootBuiltins x = some (.type T)) (ha : PA X (e :: es) t) (hn : x ≠ "__name__" := by decide) (hdb : (x == ("__debug__" : Str)) = false := by decide)
    (he : starEach (e :: es) X.env = (false, eval e X.env) :: starEach es X.env := by rfl) (hpl : (backTo pos (starEach es X.env)).any (·.1) = false := by rfl) : PE X (.Call (.Name x p) (e :: es) [] pos) (tCB r t) := by
  intro pins s σ H Q I h
  refine wpAny_Call_Name_kw (ld_blt I hg hm hv ?_ hn hdb)
  exact PyProof.Rows.callWith_type1 (thn (ha pos pins s σ H _ I h) fun us s1 ⟨vs, H1, I1, r1, q1⟩ => hc pins s1 σ H1 vs us Q I1 r1 q1) he hpl
end
end L2
namespace HT
open PySem PyProof.Rows
noncomputable def lexLt : List Int → List Int → Bool
  | [], [] => false
  | [], _ :: _ => true
  | _ :: _, [] => false
  | x :: xs, y :: ys => if x = y then lexLt xs ys else decide (x < y)
section
open PySem.SeqAt
open PySem.AutoSeq1 (wpAny_loadPart')
open PySem.MeetsSeq PySem.MeetsSeq2 PySem.MeetsSeq3
end
section
variable {prog : Program} {w : World} {A : Around} {E : Value → Shared → Prop} {s : Shared}
theorem cat_tup {t b : Addr} {vs ws : List Value} {Q : Value → Shared → Prop} (ht : IsTup s.heap t vs.toArray) (hb : IsTup s.heap b ws.toArray) (hv : vs ≠ [])
    (h1 : ws = [] → Q (.ref t) s) (h2 : ws ≠ [] → Q (.ref s.heap.objs.size) { s with heap := s.heap.push { cls := .type "tuple", data := .seq (vs ++ ws).toArray } })
    (hsz : vs.length + ws.length ≤ sizeLine) : wpAny (model prog w) A (binaryOp .Add (.ref t) (.ref b)) Q E s := by
  obtain ⟨⟨cls, dd, data, sl⟩, ho, hc, n, hd⟩ := id ht
  obtain ⟨⟨cls2, dd2, data2, sl2⟩, ho2, hc2, n2, hd2⟩ := id hb
  simp only at hc hd hc2 hd2
  subst hc hd hc2 hd2
  have e : vs.toArray ++ ws.toArray = (vs ++ ws).toArray := by simp
  by_cases hw : ws = []
  · exact concat_meets ⟨_, ho, rfl⟩ ⟨_, ho2, rfl⟩ noFill_tuple_add seq_tuple_add PySem.F.slot_tuple_add PySem.F.entry_tuple_add (PySem.F.args_tuple_add_2 _ _)
      (tuple_addW1 t b vs.toArray ws.toArray n n2 dd dd2 sl sl2 (by simpa using hv) (by simp [hw])) ⟨ho, ho2, h1 hw⟩
  · refine concat_meets ⟨_, ho, rfl⟩ ⟨_, ho2, rfl⟩ noFill_tuple_add seq_tuple_add PySem.F.slot_tuple_add PySem.F.entry_tuple_add (PySem.F.args_tuple_add_2 _ _)
      (tuple_addW2 t b vs.toArray ws.toArray n n2 dd dd2 sl sl2 (by simpa using hv) (by simpa using hw) (by rw [List.size_toArray, List.size_toArray]; exact hsz)) ⟨ho, ho2, ?_⟩
    rw [e]
    exact h2 hw
noncomputable def sIx (n d : Nat) : Option Int → Nat
  | none => d
  | some v => if v < 0 then (v + (n : Int)).toNat else min v.toNat n
end
end HT
namespace L2
open PySem PySem.Spec PyProof.Rows
noncomputable abbrev TO := St → Hp → (Option Int → Hp → Prop) → Prop
theorem intsAre_of {ns : List Int} : ∀ {us : List Value}, Vals (ns.map V.int) us → IntsAre us ns := by
  induction ns with
  | nil => intro us r; rw [List.map_nil] at r; cases r; exact .nil
  | cons n ns ih =>
    intro us r
    rw [List.map_cons] at r
    cases r with
    | cons r1 r2 =>
      obtain ⟨t, e⟩ := r1
      subst e
      exact .cons n t (ih r2)
section
variable {X : Cx} {e : Expr} {te : TE} {lo hi : Option Expr} {tl th : TO} {pos p2 : Pos}
noncomputable def rCatT (K : PySem.W.Frag) : R2 := fun x y H Q => ∃ a b xs ys, x = .ref a ∧ y = .ref b ∧ SqT K H a xs ∧ SqT K H b ys ∧ xs ≠ [] ∧ xs.length + ys.length ≤ sizeLine ∧
  (ys = [] → Q (.ref a) H) ∧ (ys ≠ [] → ∀ p, H p = none → Q (.ref p) (upd H p (.tup (xs ++ ys))))
theorem Vals.nil_iff {xs : List V} {us : List Value} (r : Vals xs us) : us = [] ↔ xs = [] := by
  cases r with
  | nil => simp
  | cons _ _ => simp
theorem op_catT : OpR X (binaryOp .Add) (rCatT X.K) := by
  intro pins s σ H x y v u Q I rx ry h
  obtain ⟨a, b, xs, ys, rfl, rfl, ha, hb, hx, hz, q1, q2⟩ := h
  cases rx
  cases ry
  obtain ⟨its, r1, p1, _⟩ := I.tuple ha
  obtain ⟨its2, r2, p2, _⟩ := I.tuple hb
  refine HT.cat_tup p1 p2 (fun z => hx (r1.nil_iff.mp z)) (fun z => ⟨.ref a, H, I, rfl, q1 (r2.nil_iff.mp z)⟩) (fun z => ?_) (by rw [← r1.length, ← r2.length]; exact hz)
  refine ⟨.ref s.heap.objs.size, _, I.laid (t' := s.toks) (o := .tup (xs ++ ys)) (fun b ob q => Heap.get?_push_of_some _ q) (Nat.le_refl _) ?_, rfl, q2 (fun w => z (r2.nil_iff.mpr w)) _ (I.hok.fresh (Nat.le_refl _))⟩
  exact ⟨by rw [List.length_append]; exact hz, _, r1.append r2, IsTup.new _ _⟩
end
end L2
namespace L2
open PySem PySem.Spec PyProof.Rows
noncomputable def ixN (n : Nat) (i : Int) : Option Nat := if 0 ≤ i then (if i < n then some i.toNat else none) else if -(n : Int) ≤ i then some (i + n).toNat else none
noncomputable def atI {α : Type} (xs : List α) (i : Int) : Option α := (ixN xs.length i).bind fun j => xs[j]?
theorem ixN_seq {n : Nat} {i : Int} {j : Nat} (h : ixN n i = some j) : seqIndex? i n = some j ∧ j < n ∧ -(n : Int) ≤ i ∧ i < n := by
  unfold ixN at h
  by_cases h0 : 0 ≤ i
  · rw [if_pos h0] at h
    by_cases h1 : i < n
    · rw [if_pos h1] at h
      have e : i.toNat = j := Option.some.inj h
      exact ⟨by rw [seqIndex_of h0 h1, e], by omega, by omega, h1⟩
    · rw [if_neg h1] at h; cases h
  · rw [if_neg h0] at h
    by_cases h1 : -(n : Int) ≤ i
    · rw [if_pos h1] at h
      have e : (i + n).toNat = j := Option.some.inj h
      exact ⟨by rw [seqIndex_neg (by omega) h1, e], by omega, h1, by omega⟩
    · rw [if_neg h1] at h; cases h
theorem atI_get {α : Type} {xs : List α} {i : Int} {v : α} (h : atI xs i = some v) : ∃ j, seqIndex? i xs.length = some j ∧ xs[j]? = some v ∧ j < xs.length ∧ -(xs.length : Int) ≤ i ∧ i < xs.length := by
  unfold atI at h
  cases e : ixN xs.length i with
  | none => rw [e] at h; cases h
  | some j =>
    rw [e] at h
    obtain ⟨h1, h2, h3, h4⟩ := ixN_seq e
    exact ⟨j, h1, h, h2, h3, h4⟩
theorem atI_nat {α : Type} {xs : List α} {j : Nat} {v : α} (h : xs[j]? = some v) : atI xs (j : Int) = some v := by
  have hj : j < xs.length := (List.getElem?_eq_some_iff.mp h).1
  have e : ixN xs.length (j : Int) = some j := by
    unfold ixN
    rw [if_pos (by omega), if_pos (by omega)]; simp
  unfold atI; rw [e]; exact h
noncomputable def PlainIx (b : Expr) : Prop := ∀ o i, subscripted b false o i = operate [o, i] (getItem o i)
noncomputable def IxR (X : Cx) (r : R2) : Prop :=
  ∀ (value slice : Expr) (pins : List (Addr × Obj)) (s : Shared) (σ : St) (H : Hp) (x y : V) (v u : Value) (Q : VK), Inv X pins σ H s → RelV x v → RelV y u → r x y H Q →
    subscripted slice false v u = operate [v, u] (getItem v u) → wpAny (model X.prog X.w) X.A (subscriptTail value slice v u) (EP X pins σ Q) X.xe s
noncomputable def MtR (X : Cx) (id : String) (r : V → List V → Hp → VK → Prop) : Prop :=
  ∀ (pins : List (Addr × Obj)) (s : Shared) (σ : St) (H : Hp) (x : V) (xs : List V) (v : Value) (us : List Value) (Q : VK), Inv X pins σ H s → RelV x v → Vals xs us → r x xs H Q →
    wpAny (model X.prog X.w) X.A (call (.builtin id) (v :: us)) (EP X pins σ Q) X.xe s
section
variable {X : Cx} {a b : Expr} {ta tb : TE} {pos : Pos}
theorem IxR.or {r r' : R2} (h : IxR X r) (h' : IxR X r') : IxR X (fun x y H Q => r x y H Q ∨ r' x y H Q) := by
  intro value slice pins s σ H x y v u Q I rx ry q hs
  rcases q with q | q
  · exact h value slice pins s σ H x y v u Q I rx ry q hs
  · exact h' value slice pins s σ H x y v u Q I rx ry q hs
theorem pe_ix {r : R2} (hr : IxR X r) (ha : PE X a ta) (hb : PE X b tb) (hs : PlainIx b) : PE X (.Subscript a b pos) (tOp r ta tb) := by
  intro pins s σ H Q I h
  exact Subscript_ (binT ha hb I h fun v u s2 x y H2 I2 rx ry q => hr a b pins s2 σ H2 x y v u Q I2 rx ry q (hs _ _))
noncomputable def rIxL (K : PySem.W.Frag) : R2 := fun x y H Q => ∃ p xs i v, x = .ref p ∧ y = .int i ∧ SqL K H p xs ∧ atI xs i = some v ∧ Q v H
noncomputable def rIxT (K : PySem.W.Frag) : R2 := fun x y H Q => ∃ p xs i v, x = .ref p ∧ y = .int i ∧ SqT K H p xs ∧ atI xs i = some v ∧ Q v H
noncomputable def rIxS : R2 := fun x y H Q => ∃ z i c, x = .str z ∧ y = .int i ∧ z.length ≤ sizeLine ∧ atI z.cps.toList i = some c ∧ Q (.str ⟨#[c]⟩) H
theorem ix_list : IxR X (rIxL X.K) := by
  intro value slice pins s σ H x y v u Q I rx ry h hs
  obtain ⟨p, xs, i, z, rfl, rfl, hq, he, q⟩ := h
  cases rx
  obtain ⟨t, rfl⟩ := ry
  obtain ⟨its, r, pl, hz⟩ := I.list hq
  obtain ⟨j, h1, h2, h3, h4, h5⟩ := atI_get he
  obtain ⟨w, ew, rw'⟩ := r.get h2
  have hl := r.length
  have hn := line63
  have fin : EP X pins σ Q w s := ⟨z, H, I, rw', q⟩
  by_cases h0 : 0 ≤ i
  · have hj : i.toNat = j := by
      rw [seqIndex_of h0 h5] at h1
      exact Option.some.inj h1
    exact item_listR pl.isList h0 (by omega) (by rw [hj]; simpa using ew) fin hs
  · have hj : (i + (its.toArray.size : Int)).toNat = j := by
      rw [seqIndex_neg (by omega) h4] at h1
      rw [List.size_toArray, ← hl]
      exact Option.some.inj h1
    exact subscriptTail_builtinR (x := w) pl.isList.typeIs slot_list_getitem.lookup
      (wpAny_getItem_list_neg (Q := fun r s' => r = w ∧ EP X pins σ Q r s') pl.isList (by omega) (by rw [List.size_toArray] <;> omega) (by omega) (by rw [hj]; simpa using ew) ⟨rfl, fin⟩) hs
theorem ix_tup : IxR X (rIxT X.K) := by
  intro value slice pins s σ H x y v u Q I rx ry h hs
  obtain ⟨p, xs, i, z, rfl, rfl, hq, he, q⟩ := h
  cases rx
  obtain ⟨t, rfl⟩ := ry
  obtain ⟨its, r, pl, hz⟩ := I.tuple hq
  obtain ⟨j, h1, h2, h3, h4, h5⟩ := atI_get he
  obtain ⟨w, ew, rw'⟩ := r.get h2
  have hl := r.length
  have hn := line63
  have fin : EP X pins σ Q w s := ⟨z, H, I, rw', q⟩
  exact subscriptTail_builtinR (x := w) pl.typeIs slot_tuple_getitem.lookup
    (getItem_tuple (j := j) (Q := fun r s' => r = w ∧ EP X pins σ Q r s') pl (by omega) (by omega) (by rw [List.size_toArray, ← hl]; exact h1) (by simpa using ew) ⟨rfl, fin⟩) hs
theorem ix_str : IxR X rIxS := by
  intro value slice pins s σ H x y v u Q I rx ry h hs
  obtain ⟨z, i, c, rfl, rfl, hz, he, q⟩ := h
  obtain ⟨t, rfl⟩ := rx
  obtain ⟨t', rfl⟩ := ry
  obtain ⟨j, h1, h2, h3, h4, h5⟩ := atI_get he
  have hl : z.cps.toList.length = z.length := by simp [Str.length]
  rw [hl] at h1 h4 h5
  have hn := line63
  exact tail_any (typeIs_str s z t) slot_str_getitem.lookup (getItem_str (c := c) (by
    have e1 : decide (i < -(2 ^ 63 : Int)) = false := decide_eq_false (by omega)
    have e2 : decide (i ≥ 2 ^ 63) = false := decide_eq_false (by omega)
    rw [e1, e2, Bool.or_false]) (by rw [h1]; simpa using h2) ⟨.str ⟨#[c]⟩, H, I.tok _, ⟨_, rfl⟩, q⟩) hs
noncomputable def rIx (K : PySem.W.Frag) : R2 := fun x y H Q => rIxL K x y H Q ∨ rIxT K x y H Q ∨ rIxS x y H Q
theorem ix_seq : IxR X (rIx X.K) := ix_list.or (ix_tup.or ix_str)
theorem mapSeq_set (its : List Value) (n j : Nat) (u : Value) : Obj.mapSeq (·.setIfInBounds j u) { cls := .type "list", data := .seq its.toArray n } = { cls := .type "list", data := .seq (its.set j u).toArray n } := by
  simp [Obj.mapSeq]
theorem Inv.lst {pins : List (Addr × Obj)} {σ : St} {H : Hp} {s : Shared} {p : Addr} {xs : List V} (I : Inv X pins σ H s) (h : H p = some (.lst xs)) :
    ∃ (its : List Value) (n : Nat), Vals xs its ∧ s.heap.get? p = some { cls := .type "list", data := .seq its.toArray n } ∧ xs.length ≤ sizeLine := by
  obtain ⟨z, its, n, r, e⟩ := I.hok p _ h
  exact ⟨its, n, r, e, z⟩
theorem Inv.lstUpd {pins : List (Addr × Obj)} {σ : St} {H : Hp} {s : Shared} {p : Addr} {xs ys : List V} {its its' : List Value} {n n' : Nat} {f : Obj → Obj} (I : Inv X pins σ H s) (h : H p = some (.lst xs))
    (ho : s.heap.get? p = some { cls := .type "list", data := .seq its.toArray n }) (hf : f { cls := .type "list", data := .seq its.toArray n } = { cls := .type "list", data := .seq its'.toArray n' }) (r : Vals ys its') (hz : ys.length ≤ sizeLine) (t : Nat) :
    Inv X pins σ (upd H p (.lst ys)) { s with heap := s.heap.update p f, toks := t } := by
  have e : (s.heap.update p f).get? p = some { cls := .type "list", data := .seq its'.toArray n' } := by
    rw [Heap.get?_update_self f ho (by rw [hf] <;> rfl), hf]
  refine I.write (x := p) (e := p) (by rw [h]; trivial) (.inl rfl) (fun b u hb q => (Heap.get?_update_other _ _ (Ne.symm hb)).trans q) ⟨_, e⟩ ?_
  exact ⟨hz, its', n', r, e⟩
noncomputable def rSetL : V → V → V → Hp → (Hp → Prop) → Prop := fun o i v H Q => ∃ p xs k j, o = .ref p ∧ i = .int k ∧ H p = some (.lst xs) ∧ ixN xs.length k = some j ∧ Q (upd H p (.lst (xs.set j v)))
theorem set_list : PSet X rSetL := by
  intro pins s σ H o i v ov iv u Q I ro ri rv h
  obtain ⟨p, xs, k, j, rfl, rfl, hp, hj, q⟩ := h
  cases ro
  obtain ⟨t, rfl⟩ := ri
  obtain ⟨its, n, r, ho, hz⟩ := I.lst hp
  obtain ⟨h1, h2, h3, h4⟩ := ixN_seq hj
  have hl := r.length
  have hn := line63
  have I' : Inv X pins σ (upd H p (.lst (xs.set j v))) { s with heap := s.heap.update p (Obj.mapSeq (·.setIfInBounds j u)) } :=
    I.lstUpd hp ho (mapSeq_set its n j u) (r.set rv j) (by rw [List.length_set]; exact hz) s.toks
  by_cases h0 : 0 ≤ k
  · have hk : k.toNat = j := by
      rw [seqIndex_of h0 h4] at h1
      exact Option.some.inj h1
    exact PySem.W.ki_setAt ho h0 (by omega) (by rw [List.size_toArray, ← hl]; exact h4) (by rw [hk]; exact ⟨_, I', q⟩)
  · have hk : (k + (its.toArray.size : Int)).toNat = j := by
      rw [seqIndex_neg (by omega) h3] at h1
      rw [List.size_toArray, ← hl]
      exact Option.some.inj h1
    exact PySem.W.ki_setBack ho (by omega) (by rw [List.size_toArray, ← hl]; exact h3) (by omega) (by rw [hk]; exact ⟨_, I', q⟩)
theorem call_len_seq : CallR X (.builtin "len") (fun xs H Q => ∃ p ys, xs = [.ref p] ∧ (SqL X.K H p ys ∨ SqT X.K H p ys) ∧ Q (.int ys.length) H) := by
  intro pins s σ H xs us Q I r h
  obtain ⟨p, ys, rfl, hq, q⟩ := h
  obtain ⟨u, rfl, rx⟩ := vals1 r
  cases rx
  have hn := line63
  rcases hq with hq | hq
  · obtain ⟨its, r', pl, hz⟩ := I.list hq
    have hlen := r'.length
    exact Calls.call_len_list pl.isList (by simp only [List.size_toArray] <;> omega) ⟨.int ys.length, H, I.tok _, ⟨s.toks + 1, by rw [List.size_toArray, hlen]⟩, q⟩
  · obtain ⟨its, r', pl, hz⟩ := I.tuple hq
    have hlen := r'.length
    exact len_tuple pl (by simp only [List.size_toArray] <;> omega) ⟨.int ys.length, H, I.tok _, ⟨s.toks + 1, by rw [List.size_toArray, hlen]⟩, q⟩
theorem call_list_of : CallR X (.type "list") (fun xs H Q => ∃ p ys, xs = [.ref p] ∧ (SqL X.K H p ys ∨ SqT X.K H p ys) ∧ ∀ l, H l = none → Q (.ref l) (upd H l (.lst ys))) := by
  intro pins s σ H xs us Q I r h
  obtain ⟨p, ys, rfl, hq, q⟩ := h
  obtain ⟨u, rfl, rx⟩ := vals1 r
  cases rx
  have fin : ∀ (its : List Value), Vals ys its → ys.length ≤ sizeLine → ∀ (h' : Heap) (c' : Nat), (∀ b o', s.heap.get? b = some o' → h'.get? b = some o') →
      h'.get? s.heap.objs.size = some { cls := .type "list", dict := none, data := .seq its.toArray c', slots := #[] } → EP X pins σ Q (.ref s.heap.objs.size) { s with heap := h' } := fun its r' hz h' c' kp e =>
    ⟨.ref s.heap.objs.size, _, I.laid (t' := s.toks) kp (Nat.le_refl _) (show ObjOk X.prog X.w _ h' _ (.lst ys) from ⟨hz, its, c', r', e⟩), rfl, q _ (I.hok.fresh (Nat.le_refl _))⟩
  rcases hq with hq | hq
  · obtain ⟨its, r', pl, hz⟩ := I.list hq
    have hlen := r'.length
    obtain ⟨o, ho, hc, n, hd⟩ := pl.isList
    exact call_list_seq p (.inl rfl) ho hc hd (fun h' c' kp e => fin its r' hz h' c' kp e) (by simp only [List.size_toArray] <;> omega)
  · obtain ⟨its, r', pl, hz⟩ := I.tuple hq
    have hlen := r'.length
    obtain ⟨o, ho, hc, n, hd⟩ := pl
    exact call_list_seq p (.inr rfl) ho hc hd (fun h' c' kp e => fin its r' hz h' c' kp e) (by simp only [List.size_toArray] <;> omega)
theorem call_tuple_of : CallR X (.type "tuple") (fun xs H Q => ∃ p ys, xs = [.ref p] ∧ ((SqL X.K H p ys ∧ ∀ l, H l = none → Q (.ref l) (upd H l (.tup ys))) ∨ (SqT X.K H p ys ∧ Q (.ref p) H))) := by
  intro pins s σ H xs us Q I r h
  obtain ⟨p, ys, rfl, h⟩ := h
  obtain ⟨u, rfl, rx⟩ := vals1 r
  cases rx
  rcases h with ⟨hq, q⟩ | ⟨hq, q⟩
  · obtain ⟨its, r', pl, hz⟩ := I.list hq
    have hlen := r'.length
    refine call_tuple_list pl.isList (fun h' kp => ?_) (by simp only [List.size_toArray] <;> omega)
    have I1 : Inv X pins σ H { s with heap := h' } := I.kept (t' := s.toks) kp
    have I2 : Inv X pins σ (upd H h'.objs.size (.tup ys)) { s with heap := h'.push { cls := .type "tuple", data := .seq its.toArray } } :=
      I1.laid (t' := s.toks) (fun b o e => Heap.get?_push_of_some _ e) (Nat.le_refl _) (show ObjOk X.prog X.w _ _ _ (.tup ys) from ⟨hz, its, r', IsTup.new _ _⟩)
    exact ⟨.ref h'.objs.size, _, I2, rfl, q _ (I1.hok.fresh (Nat.le_refl _))⟩
  · obtain ⟨its, r', pl, hz⟩ := I.tuple hq
    exact call_tuple_same pl ⟨.ref p, H, I, rfl, q⟩
noncomputable def tyV (K : PySem.W.Frag) (T : String) (x : V) (H : Hp) : Prop := match x with
  | .str _ => T = "str"
  | .int _ => T = "int"
  | .ref p => (T = "list" ∧ ∃ xs, SqL K H p xs) ∨ (T = "tuple" ∧ ∃ o, K.lookup p = some o ∧ o.cls = .type "tuple" ∧ o.dict = none) ∨
      (T = "dict" ∧ ((∃ kvs, H p = some (.dK kvs)) ∨ ∃ kvs, H p = some (.dT kvs))) ∨ (T = "set" ∧ ∃ S n, H p = some (.set S n))
  | _ => False
theorem tyV_is {pins : List (Addr × Obj)} {σ : St} {H : Hp} {s : Shared} {T : String} {x : V} {v : Value} (I : Inv X pins σ H s) (r : RelV x v) (ty : tyV X.K T x H) :
    s.TypeIs v T ∧ ∀ a, v = .ref a → ∃ ob, s.heap.get? a = some ob ∧ ob.dict = none := by
  cases x with
  | str z =>
    obtain ⟨t, rfl⟩ := r
    cases (show T = "str" from ty)
    exact ⟨typeIs_str s z t, fun _ e => nomatch e⟩
  | int i =>
    obtain ⟨t, rfl⟩ := r
    cases (show T = "int" from ty)
    exact ⟨typeIs_int s i t, fun _ e => nomatch e⟩
  | ref p =>
    cases r
    rcases ty with ⟨rfl, xs, hq⟩ | ⟨rfl, o, hk, hc, hd⟩ | ⟨rfl, hk⟩ | ⟨rfl, S, n, hk⟩
    · obtain ⟨its, _, pl, _⟩ := I.list hq
      refine ⟨pl.isList.typeIs, fun a e => ?_⟩
      cases e
      obtain ⟨o, n, e, c, hd, _⟩ := pl
      exact ⟨o, e, hd⟩
    · refine ⟨⟨o, I.kIn p o hk, hc⟩, fun a e => ?_⟩
      cases e
      exact ⟨o, I.kIn _ o hk, hd⟩
    · have z : ∃ o, s.heap.get? p = some o ∧ o.ExactDict := by
        rcases hk with ⟨kvs, hk⟩ | ⟨kvs, hk⟩
        · obtain ⟨_, _, _, _, o, _, _, e, ex, _⟩ := I.hok p _ hk
          exact ⟨o, e, ex⟩
        · obtain ⟨_, _, _, _, o, _, _, e, ex, _⟩ := I.hok p _ hk
          exact ⟨o, e, ex⟩
      obtain ⟨o, e, ex⟩ := z
      refine ⟨⟨o, e, ex.1⟩, fun a e2 => ?_⟩
      cases e2
      exact ⟨o, e, ex.2.1⟩
    · obtain ⟨o, _, _, _, e, ex, _⟩ := I.hok p _ hk
      refine ⟨⟨o, e, ex.1⟩, fun a e2 => ?_⟩
      cases e2
      exact ⟨o, e, ex.2.1⟩
  | _ => exact False.elim ty
noncomputable def tBM (K : PySem.W.Frag) (T : String) (r : V → List V → Hp → VK → Prop) (to : TE) (t : TA) : TE := fun σ H Q => to σ H fun x H1 => tyV K T x H1 ∧ t σ H1 fun xs H2 => r x xs H2 Q
variable {o e : Expr} {es : List Expr} {to : TE} {t : TA} {name : Str} {apos cpos : Pos} {T id : String} {r : V → List V → Hp → VK → Prop}
theorem pe_bm (pa : PlainAttrs T) (slot : Slot T name id) (hty : typeOf (.builtin id) = pure (.type "method_descriptor")) (hm : MtR X id r) (ho : PE X o to) (ha : PA X (e :: es) t)
    (hbase : attributeBase o name X.env (eval o X.env) = eval o X.env := by rfl)
    (hfew : ((backTo cpos (starEach (e :: es) X.env)).all (fun x => !x.1) && (backToKw cpos (keywordEach [] X.env)).all (fun x => x.1.isSome)
      && decide ((e :: es).length + ([] : List Keyword).length + (if ([] : List Keyword).isEmpty then 0 else 1) < 30)) = true := by rfl)
    (hline : (apos.endLine == cpos.line) = true := by rfl) (hs : starEach (e :: es) X.env = (false, eval e X.env) :: starEach es X.env := by rfl) (hplain : (backTo cpos (starEach es X.env)).any (·.1) = false := by rfl) :
    PE X (.Call (.Attribute o name apos) (e :: es) [] cpos) (tBM X.K T r to t) := by
  intro pins s σ H Q I h
  refine wpAny_Call_method_late hbase hfew hline rfl (thn (ho pins s σ H _ I h) fun v s1 zq20 => ?_)
  obtain ⟨x, H1, I1, r1, ty, q1⟩ := zq20
  refine ?_
  obtain ⟨h1, h2⟩ := tyV_is I1 r1 ty
  refine ⟨T, id, pa, slot, hty, h1, h2, ?_⟩
  have hA := ha cpos pins s1 σ H1 _ I1 q1
  rw [hs] at hA ⊢
  refine Calls.callWith_builtin (by show (false || (backTo cpos (starEach es X.env)).any (·.1)) = false; rw [hplain] <;> rfl) (Calls.evalArgs_plain ?_)
  refine thn hA fun us s2 zq4 => ?_
  obtain ⟨vs, H2, I2, r2, q2⟩ := zq4
  exact hm pins s2 σ H2 x vs v us Q I2 r1 r2 q2
end
end L2
namespace L2
open PySem PySem.Spec PyProof.Rows
noncomputable def MtM (X : Cx) (id : String) (r : V → List V → Hp → VK → Prop) : Prop :=
  ∀ (pins : List (Addr × Obj)) (s : Shared) (σ : St) (H : Hp) (x : V) (xs : List V) (v : Value) (us : List Value) (Q : VK), Inv X pins σ H s → RelV x v → Vals xs us → r x xs H Q →
    wpAny (model X.prog X.w) X.A (call (.builtin id) (v :: us)) (EP X pins σ Q) X.xe s
theorem Vals.one {x : V} {us : List Value} (h : Vals [x] us) : ∃ u, us = [u] ∧ RelV x u := by
  cases h with
  | cons r t => cases t; exact ⟨_, rfl, r⟩
theorem Vals.two {x y : V} {us : List Value} (h : Vals [x, y] us) : ∃ u v, us = [u, v] ∧ RelV x u ∧ RelV y v := by
  cases h with
  | cons r t =>
    cases t with
    | cons q t2 => cases t2; exact ⟨_, _, rfl, r, q⟩
theorem Vals.rep {xs : List V} {us : List Value} (h : Vals xs us) : ∀ k : Nat, Vals (List.replicate k xs).flatten (List.replicate k us).flatten
  | 0 => .nil
  | k + 1 => by
    rw [List.replicate_succ, List.replicate_succ, List.flatten_cons, List.flatten_cons]
    exact Vals.append h (Vals.rep h k)
theorem foldl_rep (its : List Value) : ∀ (k : Nat) (acc : List Value),
    List.foldl (fun x1 x2 => x1 ++ x2) acc.toArray (List.replicate k its.toArray) = (acc ++ (List.replicate k its).flatten).toArray
  | 0, acc => by simp
  | k + 1, acc => by
    have e : acc.toArray ++ its.toArray = (acc ++ its).toArray := by simp
    have e2 : (acc ++ its) ++ (List.replicate k its).flatten = acc ++ (List.replicate (k + 1) its).flatten := by
      rw [List.replicate_succ, List.flatten_cons, List.append_assoc]
    rw [← e2, ← foldl_rep its k (acc ++ its), ← e, List.replicate_succ, List.foldl_cons]
section
variable {X : Cx} {pins : List (Addr × Obj)} {σ : St} {H : Hp} {s : Shared} {l b : Addr} {xs ys zs : List V}
theorem Inv.lset {its its' : List Value} {n : Nat} {f : Array Value → Array Value} {t' : Nat} (I : Inv X pins σ H s) (hH : H l = some (.lst xs))
    (e : s.heap.get? l = some { cls := .type "list", data := .seq its.toArray n }) (hf : f its.toArray = its'.toArray) (hv : Vals ys its') (hz : ys.length ≤ sizeLine) :
    Inv X pins σ (upd H l (.lst ys)) { s with heap := s.heap.update l (Obj.mapSeq f), toks := t' } := by
  have q := PySem.IsL.update e f
  rw [hf] at q
  refine I.write (x := l) (e := l) (by rw [hH]; exact trivial) (.inl rfl) (fun b' u hb hu => (Heap.get?_update_other s.heap (Obj.mapSeq f) (Ne.symm hb)).trans hu) ⟨_, q⟩ ?_
  exact ⟨hz, its', _, hv, q⟩
theorem Inv.lnew {its : List Value} {t' : Nat} (I : Inv X pins σ H s) (hv : Vals ys its) (hz : ys.length ≤ sizeLine) :
    Inv X pins σ (upd H s.heap.objs.size (.lst ys)) { s with heap := s.heap.push { cls := .type "list", data := .seq its.toArray }, toks := t' } :=
  I.laid (fun _ _ q => Heap.get?_push_of_some _ q) (Nat.le_refl _) ⟨hz, its, 0, hv, Heap.get?_push_size _ rfl⟩
theorem Inv.fresh (I : Inv X pins σ H s) : H s.heap.objs.size = none := I.hok.fresh (Nat.le_refl _)
theorem Inv.lstM (I : Inv X pins σ H s) (hH : H l = some (.lst xs)) : xs.length ≤ sizeLine ∧ ∃ (its : List Value) (n : Nat), Vals xs its ∧ xs.length = its.length ∧ s.heap.get? l = some { cls := .type "list", data := .seq its.toArray n } := by
  obtain ⟨z, its, n, r, e⟩ := I.hok l _ hH
  exact ⟨z, its, n, r, r.length, e⟩
theorem notLongL {n : Nat} (h : n ≤ sizeLine) : Builtin.List.listTooLong n = false := by
  unfold Builtin.List.listTooLong
  exact decide_eq_false (by omega)
end
section
variable {X : Cx}
noncomputable def rAppend : V → List V → Hp → VK → Prop := fun x vs H Q => ∃ l xs y, x = .ref l ∧ vs = [y] ∧ H l = some (.lst xs) ∧ xs.length < sizeLine ∧ Q .non (upd H l (.lst (xs ++ [y])))
theorem mt_append : MtM X "list.append" rAppend := by
  intro pins s σ H x vs v us Q I rx rv h
  obtain ⟨l, xs, y, rfl, rfl, hH, hz, q⟩ := h
  cases rx
  obtain ⟨u, rfl, ru⟩ := rv.one
  obtain ⟨z, its, n, r, hl, e⟩ := I.lstM hH
  refine call_meets F.slot_list_append ⟨_, e, rfl⟩ F.entry_list_append (F.args_list_append_2 _ _) (PySem.list_append l its.toArray n u (by rw [List.size_toArray]; omega)) ⟨e, ?_⟩
  refine ⟨.non, _, I.lset (its' := its ++ [u]) hH e (by simp) (r.append (.cons ru .nil)) ?_, rfl, q⟩
  rw [List.length_append, List.length_singleton]
  omega
noncomputable def rRep : R2 := fun x y H Q => ∃ l k xs, x = .ref l ∧ y = .int k ∧ H l = some (.lst xs) ∧ -(2 ^ 63) ≤ k ∧ k < 2 ^ 63 ∧ xs.length * k.toNat ≤ sizeLine ∧
  ∀ p, H p = none → Q (.ref p) (upd H p (.lst (List.replicate k.toNat xs).flatten))
theorem len_rep {α : Type} (xs : List α) (k : Nat) : (List.replicate k xs).flatten.length = k * xs.length := by
  induction k with
  | zero => simp
  | succ k ih => rw [List.replicate_succ, List.flatten_cons, List.length_append, ih, Nat.succ_mul, Nat.add_comm]
theorem op_rep : OpR X (binaryOp .Mult) rRep := by
  intro pins s σ H x y v u Q I rx ry h
  obtain ⟨l, k, xs, rfl, rfl, hH, h1, h2, hz, q⟩ := h
  cases rx
  obtain ⟨t, rfl⟩ := ry
  obtain ⟨z, its, n, r, hl, e⟩ := I.lstM hH
  have hlen : its.toArray.size * k.toNat ≤ sizeLine := by rw [List.size_toArray, ← hl]; exact hz
  have hcap : ¬ its.toArray.size * k.toNat > (2 ^ 63 - 1) / 8 := by
    have : (sizeLine : Nat) ≤ (2 ^ 63 - 1) / 8 := by decide
    omega
  have hfit : ¬ (!Builtin.List.listFitsIndex k) = true := by
    rw [fitsIndex_both h1 h2]
    exact Bool.false_ne_true
  have hlong : ¬ Builtin.List.listTooLong (its.toArray.size * k.toNat) = true := by
    rw [notLongL hlen]
    exact Bool.false_ne_true
  have hnew : List.foldl (fun x1 x2 => x1 ++ x2) #[] (List.replicate (if its.toArray.isEmpty = true then 0 else k.toNat) its.toArray) = (List.replicate k.toNat its).flatten.toArray := by
    have f0 : ∀ m : Nat, List.foldl (fun x1 x2 => x1 ++ x2) #[] (List.replicate m its.toArray) = (List.replicate m its).flatten.toArray := fun m => by
      have := foldl_rep its m []
      rw [List.nil_append] at this
      exact this
    rw [f0]
    cases its with
    | nil => simp
    | cons a r' => rw [if_neg (by simp)]
  refine wpAny_binaryOp_repeat_ref (T := "list") (U := "int") (by decide) ⟨_, e, rfl⟩ (fun s' => typeIs_int s' k t) noFill_list_mul F.fills_int_mul F.slot_int_rmul repeat_list F.slot_int_index.lookup
    (call_meets F.slot_int_rmul (typeIs_int s k t) F.entry_int_rmul (F.args_int_rmul_2 _ _) (int___rmul___int_list k t l its.toArray n)
      ⟨e, rfl, ⟨_, e, rfl⟩, call_meets F.slot_list_mul ⟨_, e, rfl⟩ F.entry_list_mul (F.args_list_mul_2 _ _) (AutoListH.list___mul___list_int_3 l its.toArray n k t hfit hcap hlong) ⟨e, ?_⟩⟩)
  rw [hnew]
  exact ⟨.ref _, _, I.lnew (t' := s.toks) (r.rep k.toNat) (by rw [len_rep, Nat.mul_comm]; exact hz), rfl, q _ I.fresh⟩
end
section
variable {prog : Program} {w : World} {A : Around} {E : Value → Shared → Prop} {s : Shared}
end
section
variable {X : Cx}
end
end L2
namespace Att
open PySem PySem.W PySem.Calls PyProof.Rows
theorem ints_of_wellAll {P : Params} {h : Heap} : ∀ (ns : List Int) (vs : List Value), WellAll P h vs (ns.map WData.int) → IntsAre vs ns := by
  intro ns
  induction ns with
  | nil =>
    intro vs w
    rw [List.map_nil] at w
    cases w
    exact .nil
  | cons n ns ih =>
    intro vs w
    rw [List.map_cons] at w
    cases w with
    | cons a b =>
      cases a
      exact .cons _ _ (ih _ b)
theorem script_of {l : OpenLaw} {n : Nat} (hn : l.most = some n) {P : Params} {h : Heap} {args : List WData} {vals : List Value}
    (hpre : l.row.toRowW.claim.pre args = true) (hwl : WellAll P h vals args) :
    ∃ a vs ns, vals = [Value.ref a] ∧ args = [WData.list (ns.map WData.int)] ∧ h.get? a = some { cls := .type "list", data := .seq vs.toArray } ∧ IntsAre vs ns ∧ ns.length ≤ n := by
  have hsh : WShape.hasAll [] args [.list .int] = true := (pre_splitW hpre).1
  have hc : l.pre.holds [] { args := args } = true := (pre_splitW hpre).2
  obtain ⟨d, r, rfl, h1, h2⟩ := hasAllW_cons hsh
  obtain rfl := hasAllW_nil h2
  obtain ⟨xs, rfl, h3⟩ := hasW_list h1
  obtain ⟨ns, rfl⟩ := items_int h3
  have hlen : ns.length ≤ n := by
    unfold OpenLaw.pre at hc
    have h4 : (WTm.not (.lt (.lit (.int (n : Int))) (.len (.arg 0)))).holds [] { args := [.list (ns.map .int)] } = true := by
      have h4 := (holds_andW hc).1
      rw [hn] at h4
      exact h4
    have h5 := condW_of h4 (w_not (w_lt w_lit (w_len_list (w_arg rfl))))
    rw [List.length_map] at h5
    refine Nat.le_of_not_lt fun q => ?_
    have q' : (n : Int) < ((ns.length : Nat) : Int) := by omega
    first
      | (rw [decide_eq_true q'] at h5; exact absurd h5 (by decide))
      | (simp at h5; omega)
  cases hwl with
  | cons w1 w2 =>
    cases w2
    cases w1 with
    | list ho hall => exact ⟨_, _, ns, rfl, rfl, ho, ints_of_wellAll ns _ hall, hlen⟩
theorem post_true (l : OpenLaw) (args : List WData) : l.row.toRowW.claim.post args (.bool true) args = true :=
  postW_of (r := l.row.toRowW) (X := (true == true))
    (show WShape.has [] (.bool true) .bool = true by first | rfl | decide | simp [WShape.has, WShape.arms, WShape.armsAll])
    (show (WTm.eq .res (.lit (.bool true))).value [] { args := args, res := some (.bool true), after := args } = some (.bool (true == true)) from w_eq_bool (w_res rfl) w_lit) rfl
theorem attach_call {l : OpenLaw} {n : Nat} {q : Program} {loose : List Str} {XP : (Str → Option Value) → Heap → Prop} {YP : World → Heap → Prop} {d : DefRec}
    (hn : l.most = some n) (hdf : d.params.defaults = [])
    (call : ∀ (w : World) (s₀ s₁ : Shared) (mg mb : Str → Option Value) (fa : Addr) (o : Obj) (pm cd doc : Value) (a : Addr) (vs : List Value) (ns : List Int),
      Ground q loose [] XP w s₀ mg mb s₁.heap → YP w s₁.heap →
      s₁.heap.get? fa = some o → o.data = .func (docDef d.name d.params d.body d.scope pm cd doc) → s₁.heap.CodeRec cd d.name → mg d.name = some (.ref fa) →
      s₁.heap.get? a = some { cls := .type "list", data := .seq vs.toArray } → IntsAre vs ns → ns.length ≤ n → s₁.gens = #[] →
      codeAny (model l.prog w) callerA (.call (.ref fa) ⟨[.ref a], []⟩) (fun r s' => r = .ok (.ret (.bool true)) ∧ OldK s₁.heap s'.heap ∧ s'.os = s₁.os ∧ AllBare s'.gens) s₁) :
    WalkO q loose XP YP l.row.toRowW d [] (fun f vs => PySem.call f vs) := by
  intro w s₀ s₁ mg mb G Y fa o pm cd doc dV kV ho hd hcd hD hmg hg args vals as hpre hlay hrd hwl hlo
  obtain rfl : dV = .none := Dflts.none hD hdf
  obtain rfl : kV = .none := Dflts.noKw hD
  obtain ⟨a, vs, ns, rfl, rfl, hobj, hints, hlen⟩ := script_of hn hpre hwl
  refine enter_call (codeAny_mono (call w s₀ s₁ mg mb fa o pm cd doc a vs ns G Y ho (fd_plain hd) hcd hmg hobj hints hlen hg) fun r s' hq => ?_)
  obtain ⟨rfl, h2, h3, h4⟩ := hq
  exact ⟨.inl ⟨.bool true, .bool true, [], rfl, fun _ => rfl, .bool true, post_true l _, fun _ => ⟨List.Pairwise.nil, fun _ hm => (nomatch hm)⟩⟩, h2, h3, h4⟩
section
variable {prog : Program} {w : World} {A : Around} {E : Value → Shared → Prop} {s : Shared} {K : Frag}
noncomputable def noObjs (h : Heap) : Heap := { h with objs := #[] }
theorem noObjs_get (h : Heap) (b : Addr) : (noObjs h).get? b = none := by
  cases e : (noObjs h).get? b with
  | none => rfl
  | some o => exact absurd (Heap.lt_size e) (Nat.not_lt_zero _)
noncomputable def ledger (h : Heap) (L d : Addr) : List (Addr × Obj) := (List.range h.objs.size).filterMap fun a => if a = L ∨ a = d then none else (h.get? a).map fun o => (a, o)
theorem mem_ledger {h : Heap} {L d a : Addr} {o : Obj} : (a, o) ∈ ledger h L d ↔ a ≠ L ∧ a ≠ d ∧ h.get? a = some o := by
  unfold ledger
  rw [List.mem_filterMap]
  constructor
  · rintro ⟨b, _, e⟩
    split at e
    · cases e
    · rename_i hb
      obtain ⟨o', ho, e'⟩ := Option.map_eq_some_iff.mp e
      cases e'
      exact ⟨fun q => hb (.inl q), fun q => hb (.inr q), ho⟩
  · rintro ⟨n1, n2, ho⟩
    refine ⟨a, List.mem_range.mpr (Heap.lt_size ho), ?_⟩
    rw [if_neg (show ¬ (a = L ∨ a = d) from fun q => q.elim n1 n2), ho] <;> rfl
theorem fr_all {h : Heap} {L : Addr} {m : Str → Option Value} (n : h.Ns L m) : Fr (noObjs h) L h m :=
  ⟨n, fun b o e => (by rw [noObjs_get] at e; cases e), Nat.zero_le _⟩
end
end Att
namespace L2
open PySem PySem.Spec PyProof.Rows
theorem vals_ints : ∀ {vs : List Value} {ns : List Int}, IntsAre vs ns → Vals (ns.map V.int) vs
  | _, _, .nil => .nil
  | _, _, .cons n t h => .cons ⟨t, rfl⟩ (vals_ints h)
noncomputable def Only (H : Hp) : Prop := ∀ b, H b = none ∨ ∃ o xs, H b = some (.frz o (.lst xs))
theorem law_call {P : Program} {w : World} {K : PySem.W.Frag} {mg mb : Str → Option Value} {CX : CXT} {k : Nat} {fa a : Addr} {fd : FuncData} {x : Str} {sp : Sp} {s₁ : Shared} {vs : List Value} {ns : List Int}
    (KX : K.In s₁.heap) (hns : s₁.heap.Ns mainGlobals mg) (hb : s₁.heap.Ns builtinsNs mb) (hbb : ∀ x : Str, x ≠ "__name__" → mb x = bootBuiltins x) (hlim : s₁.heap.NoLimit) (hg : s₁.gens = #[])
    (ha : s₁.heap.get? a = some { cls := .type "list", data := .seq vs.toArray }) (hi : IntsAre vs ns) (hl : ns.length ≤ sizeLine) (hr : Room k callerA)
    (F : ∀ base : Heap, K.In base → base.Ns mainGlobals mg → FnOk P w K mg base CX k fa fd [x] sp) (hbind : ∀ (s : Shared) (u : Value), BindsTo s fd ⟨[u], []⟩ [(x, u)])
    (hsp : ∀ H : Hp, Only H → SqL K H a (ns.map V.int) → sp [.ref a] H (fun v _ => v = .bl true) fun _ _ _ => False)
    (hCX : ∀ H e s', CX [] H s₁ (fun _ _ _ => False) e s' → False) :
    codeAny (model P w) callerA (.call (.ref fa) ⟨[.ref a], []⟩) (fun r s' => r = .ok (.ret (.bool true)) ∧ OldK s₁.heap s'.heap ∧ s'.os = s₁.os ∧ AllBare s'.gens) s₁ := by
  have rv := vals_ints hi
  have lenV := hi.length
  have core : ∀ H : Hp, Only H → SqL K H a (ns.map V.int) → HOk P w H s₁.heap → (∀ b, H b ≠ none → b = a) → (H a ≠ none → K.lookup a = none) →
      codeAny (model P w) callerA (.call (.ref fa) ⟨[.ref a], []⟩) (fun r s' => r = .ok (.ret (.bool true)) ∧ OldK s₁.heap s'.heap ∧ s'.os = s₁.os ∧ AllBare s'.gens) s₁ := by
    intro H hO hS hok hA hK
    have base_of : ∀ {b : Addr} {o : Obj}, s₁.heap.get? b = some o → H b = none → (hidT s₁.heap H).get? b = some o := fun e n => hidT_get e n
    have noA : ∀ {b : Addr} {o : Obj} {es : Array DictEntry} {ep : Nat}, s₁.heap.get? b = some o → o.data = .dict es ep → H b = none := fun {b o es ep} e d => by
      cases q : H b with
      | none => rfl
      | some u =>
        have e' : b = a := hA b (by rw [q]; simp)
        subst e'
        rw [ha] at e; cases e
        have d' : Data.seq vs.toArray _ = Data.dict es ep := d
        cases d'
    have nsK : ∀ {b : Addr} {m : Str → Option Value}, s₁.heap.Ns b m → (hidT s₁.heap H).Ns b m := fun {b m} ⟨o, es, ep, e, d, r⟩ => ⟨o, es, ep, base_of e (noA e d), d, r⟩
    have hKb : K.In (hidT s₁.heap H) := fun b o e => base_of (KX b o e) (by
      cases q : H b with
      | none => rfl
      | some u =>
        have e' : b = a := hA b (by rw [q]; simp)
        subst e'
        rw [hK (by rw [q]; simp)] at e; cases e)
    have hM : Mod K mg (hidT s₁.heap H) := ⟨hKb, nsK hns, ⟨mb, nsK hb, hbb⟩, let ⟨mc, h1, h2⟩ := hlim; ⟨mc, nsK h1, h2⟩⟩
    have e0 : Env0 P w K mg (hidT s₁.heap H) callerA [] s₁ H := ⟨rfl, hM, fun b o e => of_hidT e, Nat.le_of_eq (hidT_size _ _), trivial, fun b hb => absurd (show b ∈ ([] : List Addr) from hb) (by simp), hok, .of_eq hg⟩
    refine codeAny_mono ((F _ hKb (nsK hns)).run callerA [] s₁ H ⟨[.ref a], []⟩ [.ref a] [.ref a] _ _ hr e0 (hbind s₁ (.ref a)) (.cons rfl .nil) (hsp H hO hS)) fun r s' h => ?_
    cases r with
    | error e => exact (hCX H e s' h).elim
    | ok fl =>
      cases fl with
      | next => exact False.elim h
      | brk => exact False.elim h
      | cont => exact False.elim h
      | ret u =>
        obtain ⟨v, H', os, bare, un, hok', r', q⟩ := h
        have q' : v = .bl true := q
        subst q'
        obtain rfl : u = Value.bool true := r'
        refine ⟨rfl, OldK.of_keep fun b o e => ?_, os, bare⟩
        cases q : H b with
        | none => exact un.keep b o e q (by intro z; exact absurd (show b ∈ ([] : List Addr) from z) (by simp)) (by simp)
        | some u =>
          rcases hO b with z | ⟨ob, xs, z⟩
          · rw [q] at z; cases z
          · have z2 := un.frzs b ob _ z
            obtain ⟨e1, _⟩ := hok b _ z
            obtain ⟨e2, _⟩ := hok' b _ z2
            rw [e] at e1; cases e1
            exact e2
  cases hk : K.lookup a with
  | some o =>
    have e := KX a o hk
    rw [ha] at e
    cases e
    refine core (fun _ => none) (fun _ => .inl rfl) (.inr ⟨_, vs.toArray, _, hk, rfl, rfl, rfl, by rw [List.size_toArray, lenV]; exact hl, by simpa using rv⟩) (fun b u z => by have z' : (none : Option HO) = some u := z; cases z') (fun b z => absurd rfl z) fun z => absurd rfl z
  | none =>
    refine core (fun b => if b = a then some (.frz { cls := .type "list", data := .seq vs.toArray } (.lst (ns.map V.int))) else none) (fun b => ?_) (.inl (.inr ⟨{ cls := .type "list", data := .seq vs.toArray }, if_pos rfl⟩)) (fun b u z => ?_) (fun b z => ?_) fun _ => hk
    · by_cases hb : b = a
      · exact .inr ⟨_, _, if_pos hb⟩
      · exact .inl (if_neg hb)
    · by_cases hb : b = a
      · have z' := (if_pos hb).symm.trans z
        cases z'
        subst hb
        exact ⟨ha, by rw [List.length_map]; exact hl, vs, _, rv, ha⟩
      · have z' := (if_neg hb).symm.trans z
        cases z'
    · by_cases hb : b = a
      · exact hb
      · exact absurd (if_neg hb) z
end L2
namespace L2
open PySem PySem.Spec PyProof.Rows
theorem walk_of {l : PySem.W.OpenLaw} {n k : Nat} {q : Program} {loose : List Str} {XP : (Str → Option Value) → Heap → Prop} {YP : World → Heap → Prop} {d : DefRec} {K : Params → PySem.W.Frag} {CX : World → CXT} {sp : World → Sp} {x : Str}
    (hn : l.most = some n) (hn2 : n ≤ sizeLine) (hdf : d.params.defaults = []) (hr : Room k callerA)
    (hY : ∀ (w : World) (h : Heap), YP w h → (K w.params).In h)
    (F : ∀ (w : World) (mg : Str → Option Value) (fa : Addr) (h : Heap), (K w.params).In h → h.Ns mainGlobals mg → mg d.name = some (.ref fa) →
      ∃ fd : FuncData, (∀ (s : Shared) (u : Value), BindsTo s fd ⟨[u], []⟩ [(x, u)]) ∧
        ∀ base : Heap, (K w.params).In base → base.Ns mainGlobals mg → FnOk l.prog w (K w.params) mg base (CX w) k fa fd [x] (sp w))
    (hsp : ∀ (w : World) (H : Hp) (a : Addr) (ns : List Int), ns.length ≤ n → Only H → SqL (K w.params) H a (ns.map V.int) → sp w [.ref a] H (fun v _ => v = .bl true) fun _ _ _ => False)
    (hCX : ∀ (w : World) (H : Hp) (s : Shared) (e : Value) (s' : Shared), CX w [] H s (fun _ _ _ => False) e s' → False) :
    PySem.W.WalkO q loose XP YP l.row.toRowW d [] (fun f vs => PySem.call f vs) := by
  refine Att.attach_call hn hdf fun w s₀ s₁ mg mb fa o pm cd doc a vs ns G Y ho hd hcd hmg hobj hints hlen hg => ?_
  have KX := hY w _ Y
  obtain ⟨fd, hb, hF⟩ := F w mg fa _ KX G.T.g hmg
  exact law_call KX G.T.g G.T.b G.T.builtins G.T.nolimit hg hobj hints (Nat.le_trans hlen hn2) hr hF hb (fun H hO hS => hsp w H a ns hlen hO hS) fun H e s' => hCX w H s₁ e s'
end L2
namespace L2
open PySem PySem.Spec PyProof.Rows
noncomputable def defArgs (s : Stmt) : Arguments := match s with
  | .FunctionDef _ a _ _ _ _ _ _ _ _ => a
  | _ => { posonlyargs := [], args := [], vararg := none, kwonlyargs := [], kw_defaults := [], kwarg := none, defaults := [] }
noncomputable def defBody (s : Stmt) : List Stmt := match s with
  | .FunctionDef _ _ b _ _ _ _ _ _ _ => b
  | _ => []
noncomputable def defScope (s : Stmt) : Scope := match s with
  | .FunctionDef _ _ _ _ _ _ sc _ _ _ => sc
  | _ => { kind := .function, names := [], isGenerator := false, isCoroutine := false }
noncomputable abbrev CX0 : CXT := fun _ _ _ _ _ _ => False
noncomputable abbrev E0 : XK := fun _ _ _ => False
theorem pass0 {X : Cx} : Passes CX0 X E0 := fun _ _ _ _ _ _ _ h => h.elim
structure Fun (K : PySem.W.Frag) (x qual : Str) (st : Stmt) (f : Addr) (fd : FuncData) : Prop where
  ex : ∃ (oc : Value) (od : Option Addr) (kV doc pm : Value) (an : Option Addr) (cdv ct : Value) (osl : Array (Option Value)),
    fd = PySem.W.fnOf x qual (defArgs st) (defBody st) (defScope st) .none kV doc pm an cdv ct ∧ K.lookup f = some ⟨oc, od, .func fd, osl⟩ ∧ PySem.W.codeIn K cdv qual = true
  kp : PySem.W.keepIn K (.ref f) = true
section
variable {P : Program} {w : World} {K : PySem.W.Frag} {mg : Str → Option Value} {base : Heap}
theorem Fun.ok {x qual : Str} {st : Stmt} {f : Addr} {fd : FuncData} {N ps : List Str} {k : Nat} {sp : Sp} (F : Fun K x qual st f fd) (S : FnScope N ps (defScope st)) (len : ∀ vs H Q E, sp vs H Q E → vs.length = ps.length)
    (hbody : ∀ (cdv : Value) (A : Around) (outer : List Env) (s : Shared) (H : Hp) (vs : List V) (Q : VK) (E : XK), Room k (A.deeper (envOfC qual (defScope st) s.heap.objs.size f cdv)) → sp vs H Q E →
      ∃ t, PSs (cxOf CX0 P w K mg base N qual (defScope st) f cdv A outer s H E).nox (defBody st) t ∧ t { nx := fun _ H' => Q .non H', rt := Q } (start N vs) H) : FnOk P w K mg base CX0 (k + 1) f fd ps sp := by
  obtain ⟨oc, od, kV, doc, pm, an, cdv, ct, osl, rfl, lk, hcd⟩ := F.ex
  refine fn_of lk hcd S len fun A outer s H vs Q E hr hsp => ?_
  obtain ⟨t, h, q⟩ := hbody cdv A outer s H vs Q E hr hsp
  exact ⟨t, h.nox, q⟩
theorem Fun.binds {x qual : Str} {st : Stmt} {f : Addr} {fd : FuncData} {ps : List Str} (F : Fun K x qual st f fd)
    (h : ∀ (kV doc pm : Value) (an : Option Addr) (cdv ct : Value) (us : List Value), us.length = ps.length → bindArgs (PySem.W.fnOf x qual (defArgs st) (defBody st) (defScope st) .none kV doc pm an cdv ct) ⟨us, []⟩ = pure (ps.zip us)) : Binds K fd ps [] := by
  obtain ⟨oc, od, kV, doc, pm, an, cdv, ct, osl, rfl, lk, hcd⟩ := F.ex
  exact .all (h kV doc pm an cdv ct)
theorem fun_mk {x qual : Str} {st : Stmt} {f : Addr} {oc : Value} {od an : Option Addr} {osl : Array (Option Value)} {kV doc pm cdv ct : Value} (l : K.lookup f = some ⟨oc, od, .func (PySem.W.fnOf x qual (defArgs st) (defBody st) (defScope st) .none kV doc pm an cdv ct), osl⟩)
    (c : PySem.W.codeIn K cdv qual = true) (k : PySem.W.keepIn K (.ref f) = true) : Fun K x qual st f (PySem.W.fnOf x qual (defArgs st) (defBody st) (defScope st) .none kV doc pm an cdv ct) := ⟨⟨oc, od, kV, doc, pm, an, cdv, ct, osl, rfl, l, c⟩, k⟩
end
section
variable {X : Cx}
end
noncomputable def Same (H H' : Hp) : Prop := ∀ b o, H b = some o → H' b = some o
theorem Same.refl (H : Hp) : Same H H := fun _ _ h => h
end L2
namespace Fm
inductive D where
  | non | bl (b : Bool) | int (i : Int) | str (x : List Nat) | tup (l : List D) | ref (n : Nat) | lit (l : List D) | exn (c : String) (l : List D)
deriving Inhabited
inductive Cell where
  | lst (l : List D) | dct (l : List (Int × D))
noncomputable abbrev Hd := List Cell
inductive Res (α : Type) where
  | ok (a : α) (h : Hd) | exc (x : D) (h : Hd) | bad
noncomputable def Res.bind {α β : Type} (r : Res α) (f : α → Hd → Res β) : Res β := match r with
  | .ok a h => f a h | .exc x h => .exc x h | .bad => .bad
@[simp] theorem bind_ok {α β : Type} (a : α) (h : Hd) (f : α → Hd → Res β) : (Res.ok a h).bind f = f a h := rfl
noncomputable abbrev Sd := List (Option D)
noncomputable abbrev EF := Sd → Hd → Res D
noncomputable abbrev TF := Sd → Hd → Res Bool
noncomputable abbrev LF := Sd → Hd → Res (List D)
inductive Out where
  | nx (σ : Sd) (h : Hd) | rt (d : D) (h : Hd) | bk (σ : Sd) (h : Hd) | ct (σ : Sd) (h : Hd) | exc (x : D) (σ : Sd) (h : Hd) | bad
noncomputable abbrev SF := Sd → Hd → Out
noncomputable abbrev Fn := List D → Hd → Res D
noncomputable abbrev SZ : Nat := 1000000
@[simp] noncomputable def slot (σ : Sd) (i : Nat) : Option D := match σ[i]? with | some (some d) => some d | _ => none
@[simp] noncomputable def fVar (i : Nat) : EF := fun σ h => match slot σ i with | some d => .ok d h | none => .bad
@[simp] noncomputable def fC (d : D) : EF := fun _ h => .ok d h
noncomputable abbrev O2 := D → D → Hd → Res D
@[simp] noncomputable def fBin (g : O2) (a b : EF) : EF := fun σ h => (a σ h).bind fun x h => (b σ h).bind fun y h => g x y h
@[simp] noncomputable def oI (g : Int → Int → Int) : O2 := fun x y h => match x, y with | .int i, .int j => .ok (.int (g i j)) h | _, _ => .bad
@[simp] noncomputable def oB (g : Int → Int → Bool) : O2 := fun x y h => match x, y with | .int i, .int j => .ok (.bl (g i j)) h | _, _ => .bad
@[simp] noncomputable def oIc (c : Int → Int → Bool) (g : Int → Int → Int) : O2 := fun x y h => match x, y with | .int i, .int j => if c i j then .ok (.int (g i j)) h else .bad | _, _ => .bad
noncomputable def sml (i : Int) : Bool := decide (-18446744073709551616 < i) && decide (i < 18446744073709551616)
@[simp] noncomputable def oAdd : O2 := fun x y h => match x, y with
  | .int i, .int j => .ok (.int (i + j)) h
  | .tup (x :: xs), .tup ys => if (x :: xs).length + ys.length ≤ SZ then .ok (.tup (x :: xs ++ ys)) h else .bad
  | _, _ => .bad
@[simp] noncomputable def oSub : O2 := fun x y h => (oI (· - ·)) x y h
@[simp] noncomputable def oMul : O2 := fun x y h => (oIc (fun i j => sml i || sml j) (· * ·)) x y h
@[simp] noncomputable def oMod : O2 := fun x y h => (oIc (fun _ j => decide (0 < j)) (· % ·)) x y h
@[simp] noncomputable def oDiv : O2 := fun x y h => (oIc (fun _ j => decide (0 < j) && decide (j < 2 ^ 250)) (· / ·)) x y h
@[simp] noncomputable def oLt : O2 := fun x y h => (oB fun i j => decide (i < j)) x y h
@[simp] noncomputable def oLe : O2 := fun x y h => (oB fun i j => decide (i ≤ j)) x y h
@[simp] noncomputable def oGt : O2 := fun x y h => (oB fun i j => decide (j < i)) x y h
@[simp] noncomputable def oGe : O2 := fun x y h => (oB fun i j => decide (j ≤ i)) x y h
@[simp] noncomputable def uNeg : D → Hd → Res D := fun x h => match x with | .int i => .ok (.int (-i)) h | _ => .bad
@[simp] noncomputable def isNon : D → Bool | .non => true | _ => false
@[simp] noncomputable def oIsN : O2 := fun x y h => if isNon y then .ok (.bl (isNon x)) h else .bad
@[simp] noncomputable def oIsNotN : O2 := fun x y h => if isNon y then .ok (.bl (!isNon x)) h else .bad
@[simp] noncomputable def b2i (b : Bool) : Int := if b then 1 else 0
mutual
noncomputable def peq : D → D → Option Bool
  | .int i, k => match k with | .int j => some (decide (i = j)) | .bl c => some (decide (i = b2i c)) | .non => some false | .tup _ => some false | _ => none
  | .bl c, k => match k with | .int j => some (decide (b2i c = j)) | .bl d => some (decide (c = d)) | _ => none
  | .str x, k => match k with | .str y => some (decide (x = y)) | _ => none
  | .non, k => match k with | .non => some true | .int _ => some false | .tup _ => some false | _ => none
  | .tup xs, k => match k with | .tup ys => (peqs xs ys).map fun b => b && decide (xs.length = ys.length) | .non => some false | .int _ => some false | _ => none
  | .ref _, _ => none
  | .lit _, _ => none
  | .exn _ _, _ => none
noncomputable def peqs : List D → List D → Option Bool
  | x :: xs, y :: ys => match peq x y, peqs xs ys with
    | some a, some b => some (a && b)
    | _, _ => none
  | _, _ => some true
end
mutual
noncomputable def dep : D → Nat
  | .tup l => deps l + 1
  | _ => 0
noncomputable def deps : List D → Nat
  | [] => 0
  | x :: xs => max (dep x) (deps xs)
end
noncomputable def eqL (xs ys : List D) : Option Bool := if deps xs ≤ 20 then (if xs.length = ys.length then peqs xs ys else some false) else none
@[simp] noncomputable def lstOf (h : Hd) : D → Option (List D)
  | .ref n => match h[n]? with | some (.lst l) => some l | _ => none
  | .lit l => some l
  | _ => none
@[simp] noncomputable def eqG (h : Hd) (x y : D) : Option Bool := match lstOf h x, lstOf h y with
  | some xs, some ys => eqL xs ys
  | none, none => if dep x ≤ 20 then peq x y else none
  | _, _ => none
@[simp] noncomputable def oEq : O2 := fun x y h => match eqG h x y with | some b => .ok (.bl b) h | none => .bad
@[simp] noncomputable def oNe : O2 := fun x y h => match eqG h x y with | some b => .ok (.bl (!b)) h | none => .bad
@[simp] noncomputable def asB (r : Res D) : Res Bool := r.bind fun x h => match x with | .bl b => .ok b h | _ => .bad
@[simp] noncomputable def tE (a : EF) : TF := fun σ h => asB (a σ h)
@[simp] noncomputable def tNot (t : TF) : TF := fun σ h => (t σ h).bind fun b h => .ok (!b) h
@[simp] noncomputable def tAnd (t u : TF) : TF := fun σ h => (t σ h).bind fun b h => if b then u σ h else .ok false h
@[simp] noncomputable def tOr (t u : TF) : TF := fun σ h => (t σ h).bind fun b h => if b then .ok true h else u σ h
@[simp] noncomputable def fT (t : TF) : EF := fun σ h => (t σ h).bind fun b h => .ok (.bl b) h
@[simp] noncomputable def fIf (t : TF) (a b : EF) : EF := fun σ h => (t σ h).bind fun c h => if c then a σ h else b σ h
@[simp] noncomputable def fChain (g k : O2) (a b c : EF) : EF := fun σ h => (a σ h).bind fun x h => (b σ h).bind fun y h => (g x y h).bind fun z h => match z with
  | .bl true => (c σ h).bind fun w h => k y w h
  | .bl false => .ok (.bl false) h
  | _ => .bad
@[simp] noncomputable def aNil : LF := fun _ h => .ok [] h
@[simp] noncomputable def aCons (a : EF) (r : LF) : LF := fun σ h => (a σ h).bind fun x h => (r σ h).bind fun xs h => .ok (x :: xs) h
@[simp] noncomputable def fTup (r : LF) : EF := fun σ h => (r σ h).bind fun xs h => if xs.length ≤ SZ then .ok (.tup xs) h else .bad
@[simp] noncomputable def fNew (r : LF) : EF := fun σ h => (r σ h).bind fun xs h => if xs.length ≤ SZ then .ok (.ref h.length) (h ++ [.lst xs]) else .bad
@[simp] noncomputable def seqOf (h : Hd) : D → Option (List D)
  | .tup l => some l
  | .lit l => some l
  | .ref n => match h[n]? with | some (.lst l) => some l | _ => none
  | _ => none
@[simp] noncomputable def lOf (a : EF) : LF := fun σ h => (a σ h).bind fun x h => match seqOf h x with | some l => .ok l h | none => .bad
noncomputable def ixN (n : Nat) (i : Int) : Option Nat := if 0 ≤ i then (if i < n then some i.toNat else none) else if -(n : Int) ≤ i then some (i + n).toNat else none
noncomputable def atI (xs : List D) (i : Int) : Option D := (ixN xs.length i).bind fun j => xs[j]?
@[simp] noncomputable def fIx (a : LF) (b : EF) : EF := fun σ h => (a σ h).bind fun l h => (b σ h).bind fun y h => match y with
  | .int i => match atI l i with | some d => .ok d h | none => .bad
  | _ => .bad
@[simp] noncomputable def oAt : O2 := fun x y h => match seqOf h x, y with
  | some l, .int i => match atI l i with | some d => .ok d h | none => .bad
  | _, _ => .bad
@[simp] noncomputable def fAt (a b : EF) : EF := fun σ h => fBin oAt a b σ h
@[simp] noncomputable def fLen (a : LF) : EF := fun σ h => (a σ h).bind fun l h => .ok (.int l.length) h
noncomputable def intsD : List D → Option (List Int)
  | [] => some []
  | .int i :: r => (intsD r).map (i :: ·)
  | _ => none
@[simp] noncomputable def fSum (a : LF) : EF := fun σ h => (a σ h).bind fun l h => match intsD l with | some is => .ok (.int is.sum) h | none => .bad
noncomputable def bools : List D → Option (List Bool)
  | [] => some []
  | .bl b :: r => (bools r).map (b :: ·)
  | _ => none
@[simp] noncomputable def fAll (a : LF) : EF := fun σ h => (a σ h).bind fun l h => match bools l with | some bs => .ok (.bl (bs.all id)) h | none => .bad
@[simp] noncomputable def fTupL (a : LF) : EF := fun σ h => (a σ h).bind fun l h => .ok (.tup l) h
@[simp] noncomputable def fInt (a : EF) : EF := fun σ h => (a σ h).bind fun x h => match x with | .int i => .ok (.int i) h | .bl b => .ok (.int (b2i b)) h | _ => .bad
inductive Ty where | int | bool | tuple | list | str
deriving DecidableEq
@[simp] noncomputable def isTy (h : Hd) (t : Ty) : D → Option Bool
  | .non => some false
  | .bl _ => some (t == .bool || t == .int)
  | .int _ => some (t == .int)
  | .str _ => some (t == .str)
  | .tup _ => some (t == .tuple)
  | .lit _ => some (t == .list)
  | .ref n => match h[n]? with | some (.lst _) => some (t == .list) | some (.dct _) => some false | none => none
  | .exn _ _ => some false
@[simp] noncomputable def fIsTy (t : Ty) (a : EF) : EF := fun σ h => (a σ h).bind fun x h => match isTy h t x with | some b => .ok (.bl b) h | none => .bad
noncomputable def sIx (n d : Nat) : Option Int → Nat
  | none => d
  | some i => if i < 0 then (i + n).toNat else min i.toNat n
noncomputable def cut (l : List D) (lo hi : Option Int) : List D := (l.drop (sIx l.length 0 lo)).take (sIx l.length l.length hi - sIx l.length 0 lo)
noncomputable def lexLt : List Int → List Int → Bool
  | [], [] => false
  | [], _ :: _ => true
  | _ :: _, [] => false
  | x :: xs, y :: ys => if x = y then lexLt xs ys else decide (x < y)
noncomputable def rows : List D → Option (List (List Int))
  | [] => some []
  | .tup l :: r => match intsD l, rows r with | some a, some b => some (a :: b) | _, _ => none
  | _ => none
@[simp] noncomputable def fCall (F : Fn) (r : LF) : EF := fun σ h => (r σ h).bind fun xs h => F xs h
noncomputable abbrev IF := Sd → Hd → Res (List D × Option Nat)
@[simp] noncomputable def iNew (a : LF) : IF := fun σ h => (a σ h).bind fun l h => .ok (l, none) h
@[simp] noncomputable def iRange (a : EF) : IF := fun σ h => (a σ h).bind fun x h => match x with
  | .int n => if -1000000 ≤ n ∧ n ≤ 1000000 then .ok ((List.range n.toNat).map (fun k : Nat => .int k), none) h else .bad
  | _ => .bad
@[simp] noncomputable def iSeq (a : EF) : IF := fun σ h => (a σ h).bind fun x h => match x with
  | .tup l => .ok (l, none) h
  | .lit l => .ok (l, none) h
  | .ref n => match h[n]? with | some (.lst l) => .ok (l, some n) h | _ => .bad
  | _ => .bad
@[simp] noncomputable def iEnum (a : EF) : IF := fun σ h => (a σ h).bind fun x h => match x with
  | .tup l => .ok ((List.range l.length).zip l |>.map fun p => .tup [.int (p.1 : Nat), p.2], none) h
  | _ => .bad
noncomputable section
open Classical
noncomputable def held (g : Option Nat) (all : List D) (h : Hd) : Prop := match g with | none => True | some n => h[n]? = some (.lst all)
@[simp] theorem held_none (all : List D) (h : Hd) : held none all h = True := rfl
noncomputable abbrev GF := D → Sd → Option Sd
@[simp] noncomputable def gN (i : Nat) : GF := fun d σ => some (σ.set i (some d))
@[simp] noncomputable def gT (l : List Nat) : GF := fun d σ => match d with
  | .tup xs => if xs.length = l.length then some ((l.zip xs).foldl (fun σ p => σ.set p.1 (some p.2)) σ) else none
  | _ => none
@[simp] noncomputable def sSeq (a b : SF) : SF := fun σ h => match a σ h with | .nx σ h => b σ h | r => r
@[simp] noncomputable def sNil : SF := fun σ h => .nx σ h
@[simp] noncomputable def outE (r : Res D) (σ : Sd) (k : D → Hd → Out) : Out := match r with | .ok d h => k d h | .exc x h => .exc x σ h | .bad => .bad
@[simp] noncomputable def sSet (g : GF) (a : EF) : SF := fun σ h => outE (a σ h) σ fun d h => match g d σ with | some σ => .nx σ h | none => .bad
@[simp] noncomputable def sRet (a : EF) : SF := fun σ h => outE (a σ h) σ fun d h => .rt d h
@[simp] noncomputable def sExp (a : EF) : SF := fun σ h => outE (a σ h) σ fun _ h => .nx σ h
@[simp] noncomputable def sIf (t : TF) (a b : SF) : SF := fun σ h => match t σ h with | .ok c h => if c then a σ h else b σ h | .exc x h => .exc x σ h | .bad => .bad
noncomputable def sBad : SF := fun _ _ => .bad
@[simp] noncomputable def sPut (x i e : EF) : SF := fun σ h => outE (e σ h) σ fun d h => outE (x σ h) σ fun p h => outE (i σ h) σ fun j h => match p, j with
  | .ref n, .int j => match h[n]? with
    | some (.lst l) => match ixN l.length j with
      | some k => .nx σ (h.set n (.lst (l.set k d)))
      | none => .bad
    | _ => .bad
  | _, _ => .bad
@[simp] noncomputable def oApp : O2 := fun p d h => match p with
  | .ref n => match h[n]? with
    | some (.lst l) => if l.length < SZ then .ok .non (h.set n (.lst (l ++ [d]))) else .bad
    | _ => .bad
  | _ => .bad
@[simp] noncomputable def fApp (x e : EF) : EF := fun σ h => (x σ h).bind fun p h => match p with
  | .ref n => match h[n]? with
    | some (.lst _) => (e σ h).bind fun d h => oApp (.ref n) d h
    | _ => .bad
  | _ => .bad
noncomputable def forL (g : Option Nat) (all : List D) (tg : GF) (b : SF) : List D → SF
  | [], σ, h => if held g all h then .nx σ h else .bad
  | x :: xs, σ, h => if held g all h then match tg x σ with
      | some σ => match b σ h with
        | .nx σ h => forL g all tg b xs σ h
        | .ct σ h => forL g all tg b xs σ h
        | .bk σ h => .nx σ h
        | r => r
      | none => .bad
    else .bad
@[simp] noncomputable def sFor (it : IF) (tg : GF) (b : SF) : SF := fun σ h => match it σ h with
  | .ok (l, g) h => forL g l tg b l σ h
  | .exc x h => .exc x σ h
  | .bad => .bad
noncomputable def whileN (t : TF) (b : SF) : Nat → SF
  | 0, _, _ => .bad
  | n + 1, σ, h => match t σ h with
    | .ok true h => match b σ h with
      | .nx σ h => whileN t b n σ h
      | .ct σ h => whileN t b n σ h
      | .bk σ h => .nx σ h
      | r => r
    | .ok false h => .nx σ h
    | .exc x h => .exc x σ h
    | .bad => .bad
noncomputable def fuel (t : TF) (b : SF) : Sd → Hd → Nat := fun σ h => if ex : ∃ n, whileN t b n σ h ≠ .bad then Classical.choose ex else 0
noncomputable def sWhile (t : TF) (b : SF) : SF := fun σ h => whileN t b (fuel t b σ h) σ h
@[simp] noncomputable def tests : List TF → TF
  | [], _, h => .ok true h
  | t :: r, σ, h => (t σ h).bind fun b h => if b then tests r σ h else .ok false h
noncomputable def compL (g : Option Nat) (all : List D) (tg : GF) (cs : List TF) (e : EF) : List D → Sd → Hd → Res (List D)
  | [], _, h => if held g all h then .ok [] h else .bad
  | x :: xs, σ, h => if held g all h then match tg x σ with
      | some σ => (tests cs σ h).bind fun b h => if b then (e σ h).bind fun d h => (compL g all tg cs e xs σ h).bind fun ds h => .ok (d :: ds) h
        else compL g all tg cs e xs σ h
      | none => .bad
    else .bad
@[simp] noncomputable def caught (nl : Nat) (caps : List Nat) (σ : Sd) : Sd := List.replicate nl none ++ caps.map fun i => slot σ i
@[simp] noncomputable def lComp (nl : Nat) (caps : List Nat) (it : IF) (tg : GF) (cs : List TF) (e : EF) : LF := fun σ h => (it σ h).bind fun p h =>
  compL p.2 p.1 tg cs e p.1 (caught nl caps σ) h
mutual
noncomputable def pure? : D → Bool
  | .ref _ => false
  | .tup l => pures l
  | .lit l => pures l
  | .exn _ l => pures l
  | _ => true
noncomputable def pures : List D → Bool
  | [] => true
  | x :: xs => pure? x && pures xs
end
noncomputable def cellPure : Cell → Bool
  | .lst l => pures l
  | .dct l => l.all fun p => pure? p.2
noncomputable def oldOk (h h' : Hd) : Prop := ∀ n c, n < h.length → h'[n]? = some c → h[n]? = some c ∨ cellPure c = true
noncomputable def letGo (h : Hd) (r : Res D) : Res D := match r with
  | .ok d h' => if pure? d = true ∧ oldOk h h' then .ok d (h'.take h.length) else .ok d h'
  | r => r
noncomputable def runB (n : Nat) (b : SF) : Fn := fun ds h => match b (ds.map some ++ List.replicate (n - ds.length) none) h with
  | .nx _ h => .ok .non h
  | .rt d h => .ok d h
  | .exc x _ h => .exc x h
  | _ => .bad
noncomputable def mkFn (np n : Nat) (b : SF) : Fn := fun ds h => if ds.length = np then letGo h (runB n b ds h) else .bad
end
end Fm
set_option Elab.async false
set_option linter.all false
set_option maxRecDepth 100000
namespace Fm
open PySem PySem.Spec L2
noncomputable def toS (x : List Nat) : Str := ⟨x.toArray⟩
noncomputable def LitAt (K : PySem.W.Frag) (H : Hp) (a : Addr) (xs : List V) : Prop :=
  (∃ o, H a = some (.frz o (.lst xs))) ∨
    ∃ (o : Obj) (its : Array Value) (n : Nat), K.lookup a = some o ∧ o.cls = .type "list" ∧ o.dict = none ∧ o.data = .seq its n ∧ its.size ≤ sizeLine ∧ Vals xs its.toList
section
variable (K : PySem.W.Frag) (ρ : List Addr) (H : Hp)
mutual
noncomputable def RD : D → V → Prop
  | .non, v => v = .non
  | .bl b, v => v = .bl b
  | .int i, v => v = .int i
  | .str x, v => v = .str (toS x)
  | .tup l, v => ∃ p vs, v = .ref p ∧ H p = some (.tup vs) ∧ RDs l vs
  | .lit l, v => ∃ p vs, v = .ref p ∧ LitAt K H p vs ∧ RDs l vs
  | .ref n, v => ∃ a, ρ[n]? = some a ∧ v = .ref a
  | .exn _ _, _ => False
noncomputable def RDs : List D → List V → Prop
  | [], vs => vs = []
  | d :: ds, vs => ∃ v r, vs = v :: r ∧ RD d v ∧ RDs ds r
end
noncomputable def RC : Cell → Addr → Prop
  | .lst l, a => ∃ vs, H a = some (.lst vs) ∧ RDs K ρ H l vs
  | .dct l, a => ∃ kvs, H a = some (.dK kvs) ∧ kvs.map (·.1) = l.map (fun p => (Sum.inl p.1 : Key)) ∧ RDs K ρ H (l.map (·.2)) (kvs.map (·.2))
structure RH (hd : Hd) : Prop where
  len : ρ.length = hd.length
  nd : ρ.Nodup
  cel : ∀ (n : Nat) c a, hd[n]? = some c → ρ[n]? = some a → RC K ρ H c a
structure RSt (σd : Sd) (σ : St) : Prop where
  len : σd.length = σ.length
  at' : ∀ i d, slot σd i = some d → ∃ v, σ[i]? = some (some v) ∧ RD K ρ H d v
structure RS (σd : Sd) (hd : Hd) (σ : St) : Prop where
  hp : RH K ρ H hd
  st : RSt K ρ H σd σ
end
structure Ext (ρ : List Addr) (H : Hp) (ρ' : List Addr) (H' : Hp) : Prop where
  pre : ∃ t, ρ' = ρ ++ t
  new : ∀ a ∈ ρ', a ∈ ρ ∨ H a = none
  frame : ∀ p o, H p = some o → p ∉ ρ → H' p = some o
section
variable {K : PySem.W.Frag} {ρ ρ' ρ'' : List Addr} {H H' H'' : Hp} {hd hd' : Hd} {σd σd' : Sd} {σ σ' : St}
theorem Ext.refl : Ext ρ H ρ H := ⟨⟨[], by simp⟩, fun _ h => .inl h, fun _ _ h _ => h⟩
theorem Ext.out (e : Ext ρ H ρ' H') {p : Addr} {o : HO} (h : H p = some o) (n : p ∉ ρ) : p ∉ ρ' := fun z => by
  rcases e.new p z with q | q
  · exact n q
  · rw [h] at q; cases q
theorem Ext.trans (a : Ext ρ H ρ' H') (b : Ext ρ' H' ρ'' H'') : Ext ρ H ρ'' H'' where
  pre := by
    obtain ⟨t, rfl⟩ := a.pre
    obtain ⟨u, rfl⟩ := b.pre
    exact ⟨t ++ u, by simp⟩
  new := fun x hx => by
    rcases b.new x hx with q | q
    · exact a.new x q
    · cases e : H x with
      | none => exact .inr rfl
      | some o =>
        by_cases hn : x ∈ ρ
        · exact .inl hn
        · rw [a.frame x o e hn] at q; cases q
  frame := fun p o h n => b.frame p o (a.frame p o h n) (a.out h n)
theorem Ext.same (s : Same H H') : Ext ρ H ρ H' := ⟨⟨[], by simp⟩, fun _ h => .inl h, fun p o h _ => s p o h⟩
theorem Ext.get (e : Ext ρ H ρ' H') {n : Nat} {a : Addr} (h : ρ[n]? = some a) : ρ'[n]? = some a := by
  obtain ⟨t, rfl⟩ := e.pre
  rw [List.getElem?_append_left (List.getElem?_eq_some_iff.mp h).1]
  exact h
theorem RH.mut (r : RH K ρ H hd) {a : Addr} (h : a ∈ ρ) : (∃ vs, H a = some (.lst vs)) ∨ ∃ kvs, H a = some (.dK kvs) := by
  obtain ⟨n, hn⟩ := List.getElem?_of_mem h
  have hl := (List.getElem?_eq_some_iff.mp hn).1
  have hc : hd[n]? = some (hd[n]'(by rw [← r.len]; exact hl)) := by simp
  have q := r.cel n _ a hc hn
  cases e : hd[n]'(by rw [← r.len]; exact hl) with
  | lst l => rw [e] at q; obtain ⟨vs, h1, _⟩ := q; exact .inl ⟨vs, h1⟩
  | dct l => rw [e] at q; obtain ⟨vs, h1, _⟩ := q; exact .inr ⟨vs, h1⟩
theorem RH.noTup (r : RH K ρ H hd) {a : Addr} {vs : List V} (h : H a = some (.tup vs)) : a ∉ ρ := fun z => by
  rcases r.mut z with ⟨_, q⟩ | ⟨_, q⟩ <;> (rw [h] at q; cases q)
theorem RH.noFrz (r : RH K ρ H hd) {a : Addr} {o : Obj} {u : HO} (h : H a = some (.frz o u)) : a ∉ ρ := fun z => by
  rcases r.mut z with ⟨_, q⟩ | ⟨_, q⟩ <;> (rw [h] at q; cases q)
structure Kp (ρ : List Addr) (H : Hp) (ρ' : List Addr) (H' : Hp) : Prop where
  get : ∀ (n : Nat) a, ρ[n]? = some a → ρ'[n]? = some a
  tup : ∀ a vs, H a = some (.tup vs) → H' a = some (.tup vs)
  frz : ∀ a o u, H a = some (.frz o u) → H' a = some (.frz o u)
theorem RH.kp (r : RH K ρ H hd) (e : Ext ρ H ρ' H') : Kp ρ H ρ' H' :=
  ⟨fun _ _ h => e.get h, fun _ _ h => e.frame _ _ h (r.noTup h), fun _ _ _ h => e.frame _ _ h (r.noFrz h)⟩
theorem Kp.same (s : Same H H') : Kp ρ H ρ H' := ⟨fun _ _ h => h, fun _ _ h => s _ _ h, fun _ _ _ h => s _ _ h⟩
theorem LitAt.mono {a : Addr} {xs : List V} (k : Kp ρ H ρ' H') (h : LitAt K H a xs) : LitAt K H' a xs := by
  rcases h with ⟨o, h⟩ | h
  · exact .inl ⟨o, k.frz _ _ _ h⟩
  · exact .inr h
mutual
theorem RD.mono (k : Kp ρ H ρ' H') : ∀ {d : D} {v : V}, RD K ρ H d v → RD K ρ' H' d v
  | .non, _, h => by simp only [RD] at h ⊢; exact h
  | .bl _, _, h => by simp only [RD] at h ⊢; exact h
  | .int _, _, h => by simp only [RD] at h ⊢; exact h
  | .str _, _, h => by simp only [RD] at h ⊢; exact h
  | .tup l, _, h => by
    simp only [RD] at h ⊢
    obtain ⟨p, vs, e, h1, h2⟩ := h
    exact ⟨p, vs, e, k.tup _ _ h1, RDs.mono k h2⟩
  | .lit l, _, h => by
    simp only [RD] at h ⊢
    obtain ⟨p, vs, e, h1, h2⟩ := h
    exact ⟨p, vs, e, h1.mono k, RDs.mono k h2⟩
  | .ref n, _, h => by
    simp only [RD] at h ⊢
    obtain ⟨a, h1, h2⟩ := h
    exact ⟨a, k.get _ _ h1, h2⟩
  | .exn _ _, _, h => by simp only [RD] at h
theorem RDs.mono (k : Kp ρ H ρ' H') : ∀ {l : List D} {vs : List V}, RDs K ρ H l vs → RDs K ρ' H' l vs
  | [], _, h => by simp only [RDs] at h ⊢; exact h
  | d :: ds, _, h => by
    simp only [RDs] at h ⊢
    obtain ⟨v, r, e, h1, h2⟩ := h
    exact ⟨v, r, e, RD.mono k h1, RDs.mono k h2⟩
end
theorem RDs.nil : RDs K ρ H [] [] := by simp only [RDs]
theorem RDs.cons {d : D} {v : V} {ds : List D} {vs : List V} (h : RD K ρ H d v) (t : RDs K ρ H ds vs) : RDs K ρ H (d :: ds) (v :: vs) := by
  simp only [RDs]; exact ⟨v, vs, rfl, h, t⟩
theorem RDs.length : ∀ {l : List D} {vs : List V}, RDs K ρ H l vs → l.length = vs.length
  | [], _, h => by simp only [RDs] at h; subst h; rfl
  | d :: ds, _, h => by
    simp only [RDs] at h
    obtain ⟨v, r, e, h1, h2⟩ := h
    subst e
    simp [RDs.length h2]
theorem RDs.get : ∀ {l : List D} {vs : List V} {i : Nat} {d : D}, RDs K ρ H l vs → l[i]? = some d → ∃ v, vs[i]? = some v ∧ RD K ρ H d v
  | [], _, i, _, _, e => by simp at e
  | d :: ds, _, 0, _, h, e => by
    simp only [RDs] at h
    obtain ⟨v, r, e', h1, h2⟩ := h
    subst e'
    simp at e
    subst e
    exact ⟨v, rfl, h1⟩
  | d :: ds, _, i + 1, x, h, e => by
    simp only [RDs] at h
    obtain ⟨v, r, e', h1, h2⟩ := h
    subst e'
    obtain ⟨w, hw, q⟩ := RDs.get (i := i) (d := x) h2 (by simpa using e)
    exact ⟨w, by simpa using hw, q⟩
theorem RDs.set {d : D} {v : V} (h : RD K ρ H d v) : ∀ {l : List D} {vs : List V} (i : Nat), RDs K ρ H l vs → RDs K ρ H (l.set i d) (vs.set i v)
  | [], _, _, q => by simp only [RDs] at q; subst q; exact RDs.nil
  | x :: xs, _, i, q => by
    simp only [RDs] at q
    obtain ⟨w, r, e, h1, h2⟩ := q
    subst e
    cases i with
    | zero => exact RDs.cons h h2
    | succ i => exact RDs.cons h1 (RDs.set h i h2)
theorem RDs.append : ∀ {l l' : List D} {vs vs' : List V}, RDs K ρ H l vs → RDs K ρ H l' vs' → RDs K ρ H (l ++ l') (vs ++ vs')
  | [], _, _, _, h, q => by simp only [RDs] at h; subst h; exact q
  | d :: ds, _, _, _, h, q => by
    simp only [RDs] at h
    obtain ⟨v, r, e, h1, h2⟩ := h
    subst e
    exact RDs.cons h1 (RDs.append h2 q)
theorem RC.mono {c : Cell} {a : Addr} (k : Kp ρ H ρ' H') (e : H' a = H a) (h : RC K ρ H c a) : RC K ρ' H' c a := by
  cases c with
  | lst l => obtain ⟨vs, h1, h2⟩ := h; exact ⟨vs, e.trans h1, h2.mono k⟩
  | dct l => obtain ⟨vs, h1, h2, h3⟩ := h; exact ⟨vs, e.trans h1, h2, h3.mono k⟩
theorem RH.same (r : RH K ρ H hd) (s : Same H H') : RH K ρ H' hd :=
  ⟨r.len, r.nd, fun n c a h1 h2 => (r.cel n c a h1 h2).mono (Kp.same s) (by
    rcases r.mut (List.mem_of_getElem? h2) with ⟨_, q⟩ | ⟨_, q⟩ <;> rw [q, s _ _ q])⟩
theorem RSt.mono (k : Kp ρ H ρ' H') (r : RSt K ρ H σd σ) : RSt K ρ' H' σd σ :=
  ⟨r.len, fun i d h => let ⟨v, h1, h2⟩ := r.at' i d h; ⟨v, h1, h2.mono k⟩⟩
theorem RS.same (r : RS K ρ H σd hd σ) (s : Same H H') : RS K ρ H' σd hd σ := ⟨r.hp.same s, r.st.mono (Kp.same s)⟩
theorem same_upd {p : Addr} {o : HO} (h : H p = none) : Same H (upd H p o) := fun b u e => by
  rw [upd_ne (ne_of_none e h)]; exact e
theorem RH.alloc (r : RH K ρ H hd) {p : Addr} {l : List D} {vs : List V} (hp : H p = some (.lst vs)) (hn : p ∉ ρ) (h : RDs K ρ H l vs) : RH K (ρ ++ [p]) H (hd ++ [.lst l]) := by
  have k : Kp ρ H (ρ ++ [p]) H := ⟨fun n a e => by rw [List.getElem?_append_left (List.getElem?_eq_some_iff.mp e).1]; exact e, fun _ _ h => h, fun _ _ _ h => h⟩
  refine ⟨by simp [r.len], ?_, fun n c a h1 h2 => ?_⟩
  · rw [List.nodup_append]
    exact ⟨r.nd, by simp, fun a ha b hb => by simp at hb; subst hb; intro e; subst e; exact hn ha⟩
  · by_cases hlt : n < hd.length
    · rw [List.getElem?_append_left hlt] at h1
      rw [List.getElem?_append_left (by rw [r.len]; exact hlt)] at h2
      exact (r.cel n c a h1 h2).mono k rfl
    · have e1 : n = hd.length := by
        have := (List.getElem?_eq_some_iff.mp h1).1
        simp at this
        omega
      subst e1
      simp at h1
      subst h1
      rw [← r.len] at h2
      simp at h2
      subst h2
      exact ⟨vs, hp, h.mono k⟩
theorem nodup_at {α : Type} : ∀ {l : List α}, l.Nodup → ∀ {i j : Nat} {x : α}, l[i]? = some x → l[j]? = some x → i = j
  | [], _, i, _, _, e, _ => by simp at e
  | a :: l, nd, 0, 0, _, _, _ => rfl
  | a :: l, nd, 0, j + 1, x, e, e' => by
    simp at e e'
    subst e
    exact absurd (List.mem_of_getElem? e') (List.nodup_cons.mp nd).1
  | a :: l, nd, i + 1, 0, x, e, e' => by
    simp at e e'
    subst e'
    exact absurd (List.mem_of_getElem? e) (List.nodup_cons.mp nd).1
  | a :: l, nd, i + 1, j + 1, x, e, e' => by
    simp at e e'
    rw [nodup_at (List.nodup_cons.mp nd).2 e e']
theorem RH.write (r : RH K ρ H hd) {n : Nat} {p : Addr} {l : List D} {vs : List V} (hp : ρ[n]? = some p) (hn : n < hd.length) (h : RDs K ρ H l vs) : RH K ρ (upd H p (.lst vs)) (hd.set n (.lst l)) := by
  have k : Kp ρ H ρ (upd H p (.lst vs)) := by
    have hm := List.mem_of_getElem? hp
    refine ⟨fun _ _ h => h, fun a us e => ?_, fun a o u e => ?_⟩
    · rw [upd_ne (fun z => r.noTup e (by rw [z]; exact hm))]; exact e
    · rw [upd_ne (fun z => r.noFrz e (by rw [z]; exact hm))]; exact e
  refine ⟨by simp [r.len], r.nd, fun m c a h1 h2 => ?_⟩
  by_cases e : n = m
  · subst e
    rw [List.getElem?_set_self hn] at h1
    cases h1
    rw [hp] at h2
    cases h2
    exact ⟨vs, upd_same, h.mono k⟩
  · rw [List.getElem?_set_ne e] at h1
    have ne : a ≠ p := fun z => by
      subst z
      exact e (nodup_at r.nd hp h2)
    exact (r.cel m c a h1 h2).mono k (upd_ne ne)
theorem Ext.write {p : Addr} {o : HO} (hp : p ∈ ρ) : Ext ρ H ρ (upd H p o) :=
  ⟨⟨[], by simp⟩, fun _ h => .inl h, fun q u e n => by rw [upd_ne (fun z => n (by rw [z]; exact hp))]; exact e⟩
theorem Ext.alloc {p : Addr} (h : H p = none) {o : HO} : Ext ρ H (ρ ++ [p]) (upd H p o) :=
  ⟨⟨[p], rfl⟩, fun a ha => by
    rcases List.mem_append.mp ha with q | q
    · exact .inl q
    · simp at q; subst q; exact .inr h, fun q u e _ => same_upd h q u e⟩
theorem RS.ext (r : RS K ρ H σd hd σ) (e : Ext ρ H ρ' H') (h : RH K ρ' H' hd') : RS K ρ' H' σd hd' σ := ⟨h, r.st.mono (r.hp.kp e)⟩
end
end Fm
set_option Elab.async false
set_option linter.all false
set_option maxRecDepth 100000
namespace Fm
open PySem PySem.Spec L2
noncomputable abbrev VR (α β : Type) := List Addr → Hp → α → β → Prop
section
variable (K : PySem.W.Frag)
noncomputable def Post {α β : Type} (R : VR α β) (ρ : List Addr) (H : Hp) (σd : Sd) (σ : St) (r : Res α) (Q : β → Hp → Prop) : Prop := match r with
  | .ok a hd' => ∀ b H' ρ', Ext ρ H ρ' H' → RS K ρ' H' σd hd' σ → R ρ' H' a b → Q b H'
  | _ => False
noncomputable def lift {α β : Type} (R : VR α β) (f : Sd → Hd → Res α) : St → Hp → (β → Hp → Prop) → Prop := fun σ H Q =>
  ∃ ρ σd hd, RS K ρ H σd hd σ ∧ Post K R ρ H σd σ (f σd hd) Q
noncomputable abbrev rD : VR D V := fun ρ H d v => RD K ρ H d v
noncomputable abbrev rDs : VR (List D) (List V) := fun ρ H d v => RDs K ρ H d v
noncomputable abbrev rB : VR Bool Bool := fun _ _ a b => a = b
noncomputable def rQ : VR (List D) V := fun ρ H l v => ∃ p vs, v = .ref p ∧ (SqL K H p vs ∨ H p = some (.tup vs)) ∧ RDs K ρ H l vs
noncomputable def PostF (ρ : List Addr) (H : Hp) (σd : Sd) (σ : St) (r : Res (List D)) (Q : VK) : Prop := match r with
  | .ok l hd' => ∀ q vs H' ρ', Ext ρ H ρ' H' → RS K ρ' H' σd hd' σ → H q = none → H' q = some (.lst vs) → q ∉ ρ' → RDs K ρ' H' l vs → Q (.ref q) H'
  | _ => False
noncomputable def liftF (f : LF) : TE := fun σ H Q => ∃ ρ σd hd, RS K ρ H σd hd σ ∧ PostF K ρ H σd σ (f σd hd) Q
noncomputable def PostS (ρ : List Addr) (H : Hp) (o : Out) (E : Ends) : Prop := match o with
  | .nx σd hd => ∀ σ H' ρ', Ext ρ H ρ' H' → RS K ρ' H' σd hd σ → E.nx σ H'
  | .bk σd hd => ∀ σ H' ρ', Ext ρ H ρ' H' → RS K ρ' H' σd hd σ → E.bk σ H'
  | .ct σd hd => ∀ σ H' ρ', Ext ρ H ρ' H' → RS K ρ' H' σd hd σ → E.ct σ H'
  | .rt d hd => ∀ v H' ρ', Ext ρ H ρ' H' → RH K ρ' H' hd → RD K ρ' H' d v → E.rt v H'
  | _ => False
noncomputable def liftS (f : SF) : TS := fun E σ H => ∃ ρ σd hd, RS K ρ H σd hd σ ∧ PostS K ρ H (f σd hd) E
end
noncomputable def ME (X : Cx) (e : Expr) (f : EF) : Prop := PE X e (lift X.K (rD X.K) f)
noncomputable def MQ (X : Cx) (e : Expr) (f : LF) : Prop := PE X e (lift X.K (rQ X.K) f)
noncomputable def MF (X : Cx) (e : Expr) (f : LF) : Prop := PE X e (liftF X.K f)
noncomputable def MT (X : Cx) (e : Expr) (f : TF) : Prop := PT X e (lift X.K rB f)
noncomputable def MW (X : Cx) (e : Expr) (f : TF) : Prop := PW X e (lift X.K rB f)
noncomputable def MA (X : Cx) (es : List Expr) (f : LF) : Prop := PA X es (lift X.K (rDs X.K) f)
noncomputable def MS (X : Cx) (s : Stmt) (f : SF) : Prop := PS X s (liftS X.K f)
noncomputable def MSs (X : Cx) (s : List Stmt) (f : SF) : Prop := PSs X s (liftS X.K f)
section
variable {X : Cx}
theorem PE.imp {e : Expr} {t u : TE} (h : PE X e t) (i : ∀ σ H Q, u σ H Q → t σ H Q) : PE X e u := fun pins s σ H Q I q => h pins s σ H Q I (i σ H Q q)
theorem PT.imp {e : Expr} {t u : TT} (h : PT X e t) (i : ∀ σ H Q, u σ H Q → t σ H Q) : PT X e u := fun pins s σ H Q I q => h pins s σ H Q I (i σ H Q q)
theorem PW.imp {e : Expr} {t u : TT} (h : PW X e t) (i : ∀ σ H Q, u σ H Q → t σ H Q) : PW X e u := fun w pins s σ H Q I q => h w pins s σ H Q I (i σ H Q q)
theorem PA.imp {e : List Expr} {t u : TA} (h : PA X e t) (i : ∀ σ H Q, u σ H Q → t σ H Q) : PA X e u := fun p pins s σ H Q I q => h p pins s σ H Q I (i σ H Q q)
theorem PS.imp {e : Stmt} {t u : TS} (h : PS X e t) (i : ∀ D σ H, u D σ H → t D σ H) : PS X e u := fun pins s σ H D I q => h pins s σ H D I (i D σ H q)
theorem PSs.imp {e : List Stmt} {t u : TS} (h : PSs X e t) (i : ∀ D σ H, u D σ H → t D σ H) : PSs X e u := fun pins s σ H D I q => h pins s σ H D I (i D σ H q)
end
section
variable {K : PySem.W.Frag} {ρ ρ' : List Addr} {H H' : Hp} {hd hd' : Hd} {σd : Sd} {σ : St} {α β α' β' : Type} {R : VR α β} {R' : VR α' β'}
theorem Post.here {a : α} {b : β} {Q : β → Hp → Prop} (h : Post K R ρ H σd σ (.ok a hd) Q) (r : RS K ρ H σd hd σ) (q : R ρ H a b) : Q b H := h b H ρ Ext.refl r q
theorem Post.at {a : α} {b : β} {Q : β → Hp → Prop} (h : Post K R ρ H σd σ (.ok a hd) Q) (e : Ext ρ H ρ' H') (r : RS K ρ' H' σd hd σ) (q : R ρ' H' a b) : Q b H' := h b H' ρ' e r q
theorem Post.imp {r : Res α} {Q Q' : β → Hp → Prop} (h : Post K R ρ H σd σ r Q) (i : ∀ b H', Q b H' → Q' b H') : Post K R ρ H σd σ r Q' := by
  cases r with
  | ok a h' => exact fun b H' ρ' e s q => i b H' (h b H' ρ' e s q)
  | exc x h' => exact h
  | bad => exact h
theorem Post.ext {r : Res α} {Q : β → Hp → Prop} (e : Ext ρ H ρ' H') (h : Post K R ρ H σd σ r Q) : Post K R ρ' H' σd σ r Q := by
  cases r with
  | ok a h' => exact fun b H'' ρ'' e' s q => h b H'' ρ'' (e.trans e') s q
  | exc x h' => exact h
  | bad => exact h
theorem Post.bind {r : Res α} {k : α → Hd → Res α'} {Q : β' → Hp → Prop} (h : Post K R' ρ H σd σ (r.bind k) Q) :
    Post K R ρ H σd σ r (fun b H' => ∃ ρ' a hd', Ext ρ H ρ' H' ∧ RS K ρ' H' σd hd' σ ∧ R ρ' H' a b ∧ Post K R' ρ' H' σd σ (k a hd') Q) := by
  cases r with
  | ok a h' => exact fun b H' ρ' e s q => ⟨ρ', a, h', e, s, q, Post.ext e h⟩
  | exc x h' => exact h
  | bad => exact h
theorem PostS.ext {o : Out} {E : Ends} (e : Ext ρ H ρ' H') (h : PostS K ρ H o E) : PostS K ρ' H' o E := by
  cases o with
  | nx σ h' => exact fun σ' H'' ρ'' e' s => h σ' H'' ρ'' (e.trans e') s
  | bk σ h' => exact fun σ' H'' ρ'' e' s => h σ' H'' ρ'' (e.trans e') s
  | ct σ h' => exact fun σ' H'' ρ'' e' s => h σ' H'' ρ'' (e.trans e') s
  | rt d h' => exact fun v H'' ρ'' e' s q => h v H'' ρ'' (e.trans e') s q
  | exc x σ h' => exact h
  | bad => exact h
end
section
variable {X : Cx} {pos : Pos}
theorem me_var {i : Nat} {x : Str} (hN : X.N[i]? = some x) (hv : Vis X.env.scope x) (hd : (x == ("__debug__" : Str)) = false := by decide) (hcd : (x == ("__classdict__" : Str)) = false := by decide) : ME X (.Name x pos) (fVar i) := by
  refine PE.imp (pe_var hN hv hd hcd) fun σ H Q zq5 => ?_
  obtain ⟨ρ, σd, hd, r, h⟩ := zq5
  refine ?_
  unfold fVar at h
  cases e : slot σd i with
  | none => rw [e] at h; exact h.elim
  | some d =>
    rw [e] at h
    obtain ⟨v, h1, h2⟩ := r.st.at' i d e
    exact ⟨v, h1, h.here r h2⟩
theorem lift_C {K : PySem.W.Frag} {d : D} {v : V} (hv : ∀ ρ H, RD K ρ H d v) : ∀ σ H Q, lift K (rD K) (fC d) σ H Q → tC v σ H Q := fun _ H _ ⟨ρ, _, _, r, h⟩ => h.here r (hv ρ H)
theorem me_int {i : Int} {j} : ME X (.Constant (.int i) j pos) (fC (.int i)) := PE.imp pe_int (lift_C fun _ _ => by simp only [RD])
theorem me_bl {b j} : ME X (.Constant (.bool b) j pos) (fC (.bl b)) := PE.imp pe_bl (lift_C fun _ _ => by simp only [RD])
theorem me_non {j} : ME X (.Constant .none j pos) (fC .non) := PE.imp pe_non (lift_C fun _ _ => by simp only [RD])
theorem me_str {x : Str} {j} (l : List Nat) (h : x = toS l) : ME X (.Constant (.str x) j pos) (fC (.str l)) := PE.imp pe_str (lift_C fun _ _ => by simp only [RD]; rw [h])
theorem me_globI {x : Str} {i : Int} {t : Tok} (hg : Gl X x) (hm : X.mg x = some (.int i t)) (hd : (x == ("__debug__" : Str)) = false := by decide) : ME X (.Name x pos) (fC (.int i)) :=
  PE.imp (pe_glob (v := .int i) hg hm ⟨t, rfl⟩ hd) (lift_C fun _ _ => by simp only [RD])
theorem me2 {a b : Expr} {fa fb : EF} {r : R2} {g : O2} {e : Expr} (h : PE X e (tOp r (lift X.K (rD X.K) fa) (lift X.K (rD X.K) fb)))
    (hg : ∀ ρ H σd hd σ d k v w Q, RS X.K ρ H σd hd σ → RD X.K ρ H d v → RD X.K ρ H k w → Post X.K (rD X.K) ρ H σd σ (g d k hd) Q → r v w H Q) : ME X e (fBin g fa fb) := by
  refine PE.imp h fun σ H Q zq6 => ?_
  obtain ⟨ρ, σd, hd, rs, p⟩ := zq6
  refine ?_
  refine ⟨ρ, σd, hd, rs, ?_⟩
  refine (Post.bind (R := rD X.K) p).imp fun v H1 zq7 => ?_
  obtain ⟨ρ1, d, hd1, e1, rs1, rv, p1⟩ := zq7
  refine ?_
  refine ⟨ρ1, σd, hd1, rs1, ?_⟩
  refine (Post.bind (R := rD X.K) p1).imp fun w H2 zq8 => ?_
  obtain ⟨ρ2, k, hd2, e2, rs2, rw', p2⟩ := zq8
  refine ?_
  exact hg ρ2 H2 σd hd2 σ d k v w Q rs2 (rv.mono (rs1.hp.kp e2)) rw' p2
noncomputable def Og (K : PySem.W.Frag) (g : O2) (r : R2) : Prop := ∀ ρ H σd hd σ d k v w Q, RS K ρ H σd hd σ → RD K ρ H d v → RD K ρ H k w → Post K (rD K) ρ H σd σ (g d k hd) Q → r v w H Q
theorem me_op {a b : Expr} {fa fb : EF} {op : Operator} {r : R2} {g : O2} (ho : OpR X (binaryOp op) r) (hg : Og X.K g r) (ha : ME X a fa) (hb : ME X b fb) : ME X (.BinOp a op b pos) (fBin g fa fb) :=
  me2 (a := a) (b := b) (pe_op ho ha hb) hg
theorem me_cmp {a b : Expr} {fa fb : EF} {op : CmpOp} {r : R2} {g : O2} (ho : OpR X (compareOp op) r) (hg : Og X.K g r) (ha : ME X a fa) (hb : ME X b fb) (hm : behindInMarks op b = false) : ME X (.Compare a [op] [b] pos) (fBin g fa fb) :=
  me2 (a := a) (b := b) (pe_cmpR ho ha hb hm) hg
theorem og_I {K : PySem.W.Frag} {g : Int → Int → Int} : Og K (oI g) (rI0 fun i j => .int (g i j)) := by
  intro ρ H σd hd σ d k v w Q rs rv rw' p
  cases d <;> cases k <;> first | exact p.elim | skip
  simp only [RD] at rv rw'
  exact ⟨_, _, rv, rw', p.here rs (by simp only [rD, RD])⟩
theorem og_B {K : PySem.W.Frag} {g : Int → Int → Bool} : Og K (oB g) (rI0 fun i j => .bl (g i j)) := by
  intro ρ H σd hd σ d k v w Q rs rv rw' p
  cases d <;> cases k <;> first | exact p.elim | skip
  simp only [RD] at rv rw'
  exact ⟨_, _, rv, rw', p.here rs (by simp only [rD, RD])⟩
theorem og_Ic {K : PySem.W.Frag} {c : Int → Int → Bool} {C : Int → Int → Prop} {g : Int → Int → Int} (hc : ∀ i j, c i j = true → C i j) : Og K (oIc c g) (rI C fun i j => .int (g i j)) := by
  intro ρ H σd hd σ d k v w Q rs rv rw' p
  cases d <;> cases k <;> first | exact p.elim | skip
  rename_i i j
  simp only [RD] at rv rw'
  cases e : c i j with
  | false => simp only [oIc, e] at p; exact p.elim
  | true =>
    simp only [oIc, e, if_true] at p
    exact ⟨i, j, rv, rw', hc i j e, p.here rs (by simp only [rD, RD])⟩
theorem sml_iff {i : Int} (h : sml i = true) : -(2 ^ 64) < i ∧ i < 2 ^ 64 := by
  simp only [sml, Bool.and_eq_true, decide_eq_true_eq] at h; exact h
theorem og_mul {K : PySem.W.Frag} : Og K oMul (rI CMul fun i j => .int (i * j)) := og_Ic fun i j h => by
  rcases (Bool.or_eq_true _ _).mp h with q | q
  · exact .inl (sml_iff q)
  · exact .inr (sml_iff q)
theorem og_mod {K : PySem.W.Frag} : Og K oMod (rI (fun _ j => 0 < j) fun i j => .int (i % j)) := og_Ic fun i j h => of_decide_eq_true h
noncomputable def CBig (_ j : Int) : Prop := 0 < j ∧ j < 2 ^ 250
theorem op_fdivB : OpR X (binaryOp .FloorDiv) (rI CBig fun i j => .int (i / j)) := opI fun i j _ _ _ _ _ hc q => by
  have h0 : j ≠ 0 := by have := hc.1; omega
  refine PyProof.Rows.floordiv_int h0 (by rw [Int.fdiv_eq_ediv_of_nonneg _ (Int.le_of_lt hc.1)]; exact q) (.inl (PyProof.noPylong_of_log2 ?_))
  have h2 : j.natAbs < 2 ^ 250 := by have := hc.2; have := hc.1; omega
  have h3 : j.natAbs ≠ 0 := by omega
  have := (Nat.log2_lt h3).mpr h2
  omega
theorem og_div {K : PySem.W.Frag} : Og K oDiv (rI CBig fun i j => .int (i / j)) := og_Ic fun i j h => by
  simp only [Bool.and_eq_true, decide_eq_true_eq] at h; exact h
theorem rd_non {K : PySem.W.Frag} {ρ : List Addr} {H : Hp} {d : D} {v : V} (h : RD K ρ H d v) : isNon d = decide (v = .non) := by
  cases d <;> simp only [RD] at h
  · subst h; rfl
  · subst h; rfl
  · subst h; rfl
  · subst h; rfl
  · obtain ⟨p, vs, rfl, _⟩ := h; rfl
  · obtain ⟨p, vs, rfl⟩ := h; rfl
  · obtain ⟨p, vs, rfl, _⟩ := h; rfl
theorem og_isN {K : PySem.W.Frag} : Og K oIsN (fun x y H Q => y = .non ∧ Q (.bl (decide (x = .non))) H) := by
  intro ρ H σd hd σ d k v w Q rs rv rw' p
  unfold oIsN at p
  cases e : isNon k with
  | false => rw [e] at p; exact p.elim
  | true =>
    rw [e, if_pos rfl] at p
    refine ⟨of_decide_eq_true ((rd_non rw').symm.trans e), ?_⟩
    rw [← rd_non rv]
    exact p.here rs (by simp only [rD, RD])
theorem og_isNotN {K : PySem.W.Frag} : Og K oIsNotN (fun x y H Q => y = .non ∧ Q (.bl (!decide (x = .non))) H) := by
  intro ρ H σd hd σ d k v w Q rs rv rw' p
  unfold oIsNotN at p
  cases e : isNon k with
  | false => rw [e] at p; exact p.elim
  | true =>
    rw [e, if_pos rfl] at p
    refine ⟨of_decide_eq_true ((rd_non rw').symm.trans e), ?_⟩
    rw [← rd_non rv]
    exact p.here rs (by simp only [rD, RD])
theorem me_T_post {K : PySem.W.Frag} {ρ : List Addr} {H : Hp} {σd : Sd} {σ : St} {r : Res D} {Q : Bool → Hp → Prop} (h : Post K rB ρ H σd σ (asB r) Q) : Post K (rD K) ρ H σd σ r (fun x H' => ∃ c, x = .bl c ∧ Q c H') := by
  refine (Post.bind (R := rD K) h).imp fun v H1 zq9 => ?_
  obtain ⟨ρ1, d, hd1, e1, rs1, rv, p1⟩ := zq9
  refine ?_
  cases d <;> first | exact p1.elim | skip
  simp only [rD, RD] at rv
  exact ⟨_, rv, p1.here rs1 rfl⟩
theorem mt_val {e : Expr} {f : EF} (h : ME X e f) (he : ∀ whole, isTrue e X.env whole = (do let v ← whole; standAt e.pos; holding [v] (truthy v)) := by intro _; rfl) : MT X e (tE f) :=
  PT.imp (pt_val h he) fun σ H Q ⟨ρ, σd, hd, rs, p⟩ => ⟨ρ, σd, hd, rs, me_T_post p⟩
theorem mt_cmp {a b : Expr} {fa fb : EF} {op : CmpOp} {r : R2} {g : O2} (ho : OpR X (compareOp op) r) (hg : Og X.K g r) (ha : ME X a fa) (hb : ME X b fb) (hm : behindInMarks op b = false) : MT X (.Compare a [op] [b] pos) (tE (fBin g fa fb)) := by
  refine PT.imp (pt_cmpR ho ha hb hm) fun σ H Q zq10 => ?_
  obtain ⟨ρ, σd, hd, rs, p⟩ := zq10
  refine ?_
  have p := me_T_post p
  refine ⟨ρ, σd, hd, rs, ?_⟩
  refine (Post.bind (R := rD X.K) p).imp fun v H1 zq11 => ?_
  obtain ⟨ρ1, d, hd1, e1, rs1, rv, p1⟩ := zq11
  refine ?_
  refine ⟨ρ1, σd, hd1, rs1, ?_⟩
  refine (Post.bind (R := rD X.K) p1).imp fun w H2 zq12 => ?_
  obtain ⟨ρ2, k, hd2, e2, rs2, rw', p2⟩ := zq12
  refine ?_
  exact hg ρ2 H2 σd hd2 σ d k v w _ rs2 (rv.mono (rs1.hp.kp e2)) rw' p2
theorem mt_not {a : Expr} {t : TF} (h : MT X a t) : MT X (.UnaryOp .Not a pos) (tNot t) := by
  refine PT.imp (pt_not h) fun σ H Q zq13 => ?_
  obtain ⟨ρ, σd, hd, rs, p⟩ := zq13
  refine ⟨ρ, σd, hd, rs, ?_⟩
  refine (Post.bind (R := rB) p).imp fun c H1 zq14 => ?_
  obtain ⟨ρ1, d, hd1, e1, rs1, rv, p1⟩ := zq14
  refine ?_
  cases rv
  exact p1.here rs1 rfl
theorem mw_one {op a} {t : TF} (h : MT X a t) (ho : op = BoolOp.And ∨ op = BoolOp.Or) : MW X (.BoolOp op [a] pos) t := by
  rcases ho with rfl | rfl
  · exact pw_and1 h
  · exact pw_or1 h
theorem mw_and {a b : Expr} {rest : List Expr} {t u : TF} (ha : MT X a t) (hb : MW X (.BoolOp .And (b :: rest) pos) u) : MW X (.BoolOp .And (a :: b :: rest) pos) (tAnd t u) := by
  refine PW.imp (pw_and ha hb) fun σ H Q zq15 => ?_
  obtain ⟨ρ, σd, hd, rs, p⟩ := zq15
  refine ⟨ρ, σd, hd, rs, ?_⟩
  refine (Post.bind (R := rB) p).imp fun c H1 zq16 => ?_
  obtain ⟨ρ1, d, hd1, e1, rs1, rv, p1⟩ := zq16
  refine ?_
  cases rv
  cases c with
  | true => simp only [if_true] at p1 ⊢; exact ⟨ρ1, σd, hd1, rs1, p1⟩
  | false => simp only [Bool.false_eq_true, if_false] at p1 ⊢; exact p1.here rs1 rfl
theorem mw_or {a b : Expr} {rest : List Expr} {t u : TF} (ha : MT X a t) (hb : MW X (.BoolOp .Or (b :: rest) pos) u) : MW X (.BoolOp .Or (a :: b :: rest) pos) (tOr t u) := by
  refine PW.imp (pw_or ha hb) fun σ H Q zq17 => ?_
  obtain ⟨ρ, σd, hd, rs, p⟩ := zq17
  refine ⟨ρ, σd, hd, rs, ?_⟩
  refine (Post.bind (R := rB) p).imp fun c H1 zq18 => ?_
  obtain ⟨ρ1, d, hd1, e1, rs1, rv, p1⟩ := zq18
  refine ?_
  cases rv
  cases c with
  | true => simp only [if_true] at p1 ⊢; exact p1.here rs1 rfl
  | false => simp only [Bool.false_eq_true, if_false] at p1 ⊢; exact ⟨ρ1, σd, hd1, rs1, p1⟩
theorem MW.mt {e : Expr} {t : TF} (h : MW X e t) : MT X e t := h.pt
theorem lift_fT {K : PySem.W.Frag} {t : TF} {σ : St} {H : Hp} {Q : VK} (h : lift K (rD K) (fT t) σ H Q) : lift K rB t σ H (fun b H' => Q (.bl b) H') := by
  obtain ⟨ρ, σd, hd, rs, p⟩ := h
  refine ⟨ρ, σd, hd, rs, ?_⟩
  refine (Post.bind (R := rB) p).imp fun c H1 zq19 => ?_
  obtain ⟨ρ1, d, hd1, e1, rs1, rv, p1⟩ := zq19
  refine ?_
  cases rv
  exact p1.here rs1 (by simp only [rD, RD])
noncomputable def MB (X : Cx) (e : Expr) (t : TF) : Prop := PE X e (fun σ H Q => lift X.K rB t σ H fun b H' => Q (.bl b) H')
theorem MB.me {e : Expr} {t : TF} (h : MB X e t) : ME X e (fT t) := PE.imp h fun _ _ _ q => lift_fT q
theorem mb_of {e : Expr} {f : EF} (h : ME X e f) : MB X e (tE f) := by
  refine PE.imp h fun σ H Q zq20 => ?_
  obtain ⟨ρ, σd, hd, rs, p⟩ := zq20
  refine ⟨ρ, σd, hd, rs, (me_T_post p).imp ?_⟩
  rintro v H1 ⟨c, rfl, q⟩
  exact q
theorem mb_one {op a} {t : TF} (h : MB X a t) : MB X (.BoolOp op [a] pos) t := pe_one h
theorem mb_and {a b : Expr} {rest : List Expr} {t u : TF} (ha : MB X a t) (hb : MB X (.BoolOp .And (b :: rest) pos) u) : MB X (.BoolOp .And (a :: b :: rest) pos) (tAnd t u) := by
  refine PE.imp (pe_and ha hb) fun σ H Q zq21 => ?_
  obtain ⟨ρ, σd, hd, rs, p⟩ := zq21
  refine ⟨ρ, σd, hd, rs, ?_⟩
  refine (Post.bind (R := rB) p).imp fun c H1 zq22 => ?_
  obtain ⟨ρ1, d, hd1, e1, rs1, rv, p1⟩ := zq22
  refine ⟨c, rfl, ?_⟩
  cases rv
  cases c with
  | true => simp only [if_true] at p1 ⊢; exact ⟨ρ1, σd, hd1, rs1, p1⟩
  | false => simp only [Bool.false_eq_true, if_false] at p1 ⊢; exact p1.here rs1 rfl
theorem mb_or {a b : Expr} {rest : List Expr} {t u : TF} (ha : MB X a t) (hb : MB X (.BoolOp .Or (b :: rest) pos) u) : MB X (.BoolOp .Or (a :: b :: rest) pos) (tOr t u) := by
  refine PE.imp (pe_or ha hb) fun σ H Q zq23 => ?_
  obtain ⟨ρ, σd, hd, rs, p⟩ := zq23
  refine ⟨ρ, σd, hd, rs, ?_⟩
  refine (Post.bind (R := rB) p).imp fun c H1 zq24 => ?_
  obtain ⟨ρ1, d, hd1, e1, rs1, rv, p1⟩ := zq24
  refine ⟨c, rfl, ?_⟩
  cases rv
  cases c with
  | true => simp only [if_true] at p1 ⊢; exact p1.here rs1 rfl
  | false => simp only [Bool.false_eq_true, if_false] at p1 ⊢; exact ⟨ρ1, σd, hd1, rs1, p1⟩
theorem mb_not {a : Expr} {t : TF} (h : MB X a t) : MB X (.UnaryOp .Not a pos) (tNot t) := by
  refine PE.imp (pe_not h) fun σ H Q zq25 => ?_
  obtain ⟨ρ, σd, hd, rs, p⟩ := zq25
  refine ⟨ρ, σd, hd, rs, ?_⟩
  refine (Post.bind (R := rB) p).imp fun c H1 zq26 => ?_
  obtain ⟨ρ1, d, hd1, e1, rs1, rv, p1⟩ := zq26
  refine ⟨c, rfl, ?_⟩
  cases rv
  exact p1.here rs1 rfl
theorem me_if {c a b : Expr} {t : TF} {fa fb : EF} (hc : MT X c t) (ha : ME X a fa) (hb : ME X b fb) : ME X (.IfExp c a b pos) (fIf t fa fb) := by
  refine PE.imp (pe_ifExp hc ha hb) fun σ H Q zq27 => ?_
  obtain ⟨ρ, σd, hd, rs, p⟩ := zq27
  refine ⟨ρ, σd, hd, rs, ?_⟩
  refine (Post.bind (R := rB) p).imp fun c H1 zq28 => ?_
  obtain ⟨ρ1, d, hd1, e1, rs1, rv, p1⟩ := zq28
  refine ?_
  cases rv
  cases c with
  | true => simp only [if_true] at p1 ⊢; exact ⟨ρ1, σd, hd1, rs1, p1⟩
  | false => simp only [Bool.false_eq_true, if_false] at p1 ⊢; exact ⟨ρ1, σd, hd1, rs1, p1⟩
end
end Fm
set_option Elab.async false
set_option linter.all false
set_option maxRecDepth 100000
namespace Fm
open PySem PySem.Spec L2
section
variable {X : Cx} {pos : Pos}
theorem chain_post {K : PySem.W.Frag} {ρ : List Addr} {H : Hp} {σd : Sd} {hd : Hd} {σ : St} {r r' : R2} {g k : O2} {fa fb fc : EF} {Q : VK} (hg : Og K g r) (hk : Og K k r') (rs : RS K ρ H σd hd σ)
    (p : Post K (rD K) ρ H σd σ (fChain g k fa fb fc σd hd) Q) : tChain r r' (lift K (rD K) fa) (lift K (rD K) fb) (lift K (rD K) fc) σ H Q := by
  refine ⟨ρ, σd, hd, rs, ?_⟩
  refine (Post.bind (R := rD K) p).imp fun v H1 zq29 => ?_
  obtain ⟨ρ1, d, hd1, e1, rs1, rv, p1⟩ := zq29
  refine ?_
  refine ⟨ρ1, σd, hd1, rs1, ?_⟩
  refine (Post.bind (R := rD K) p1).imp fun w H2 zq30 => ?_
  obtain ⟨ρ2, d2, hd2, e2, rs2, rw2, p2⟩ := zq30
  refine ?_
  refine hg ρ2 H2 σd hd2 σ d d2 v w _ rs2 (rv.mono (rs1.hp.kp e2)) rw2 ((Post.bind (R := rD K) p2).imp fun z H3 zq21 => ?_)
  obtain ⟨ρ3, d3, hd3, e3, rs3, rz, p3⟩ := zq21
  refine ?_
  cases d3 <;> first | exact p3.elim | skip
  rename_i b
  simp only [rD, RD] at rz
  refine ⟨b, rz, ?_⟩
  cases b with
  | false =>
    rw [if_neg Bool.false_ne_true]
    exact p3.here rs3 (by simp only [rD, RD])
  | true =>
    rw [if_pos rfl]
    refine ⟨ρ3, σd, hd3, rs3, ?_⟩
    refine (Post.bind (R := rD K) p3).imp fun u H4 zq31 => ?_
    obtain ⟨ρ4, d4, hd4, e4, rs4, ru, p4⟩ := zq31
    refine ?_
    exact hk ρ4 H4 σd hd4 σ d2 d4 w u Q rs4 ((rw2.mono (rs2.hp.kp e3)).mono (rs3.hp.kp e4)) ru p4
theorem me_chain {a b c : Expr} {fa fb fc : EF} {op op' : CmpOp} {r r' : R2} {g k : O2} (ho : OpR X (compareOp op) r) (ho' : OpR X (compareOp op') r') (hg : Og X.K g r) (hk : Og X.K k r') (ha : ME X a fa) (hb : ME X b fb) (hc : ME X c fc)
    (hm : lastMarks [op, op'] [b, c] = false := by with_unfolding_all rfl) : ME X (.Compare a [op, op'] [b, c] pos) (fChain g k fa fb fc) :=
  PE.imp (pe_chain ho ho' ha hb hc hm) fun _ _ _ ⟨_, _, _, rs, p⟩ => chain_post hg hk rs p
theorem ma_nil : MA X [] aNil := PA.imp pa_nil fun _ _ _ ⟨_, _, _, rs, p⟩ => p.here rs RDs.nil
theorem ma_cons {e : Expr} {es : List Expr} {f : EF} {r : LF} (he : ME X e f) (hr : MA X es r) (hs : starEach (e :: es) X.env = (false, eval e X.env) :: starEach es X.env := by rfl) : MA X (e :: es) (aCons f r) := by
  refine PA.imp (pa_cons he hr hs) fun σ H Q zq32 => ?_
  obtain ⟨ρ, σd, hd, rs, p⟩ := zq32
  refine ?_
  refine ⟨ρ, σd, hd, rs, ?_⟩
  refine (Post.bind (R := rD X.K) p).imp fun v H1 zq33 => ?_
  obtain ⟨ρ1, d, hd1, e1, rs1, rv, p1⟩ := zq33
  refine ?_
  refine ⟨ρ1, σd, hd1, rs1, ?_⟩
  refine (Post.bind (R := rDs X.K) p1).imp fun vs H2 zq34 => ?_
  obtain ⟨ρ2, ds, hd2, e2, rs2, rvs, p2⟩ := zq34
  refine ?_
  exact p2.here rs2 (RDs.cons (rv.mono (rs1.hp.kp e2)) rvs)
theorem sz_line {n : Nat} (h : n ≤ SZ) : n ≤ sizeLine := Nat.le_trans h (by show 1000000 ≤ 2 ^ 24; decide)
theorem me_tup {es : List Expr} {k} {r : LF} (h : MA X es r) : ME X (.Tuple es k pos) (fTup r) := by
  refine PE.imp (pe_tup h) fun σ H Q zq35 => ?_
  obtain ⟨ρ, σd, hd, rs, p⟩ := zq35
  refine ?_
  refine ⟨ρ, σd, hd, rs, ?_⟩
  refine (Post.bind (R := rDs X.K) p).imp fun vs H1 zq36 => ?_
  obtain ⟨ρ1, ds, hd1, e1, rs1, rvs, p1⟩ := zq36
  refine ?_
  by_cases hz : ds.length ≤ SZ
  · rw [if_pos hz] at p1
    refine ⟨by rw [← rvs.length]; exact sz_line hz, fun q hq => ?_⟩
    have sm := same_upd (o := HO.tup vs) hq
    exact p1.at (Ext.same sm) (rs1.same sm) (by simp only [rD, RD]; exact ⟨q, vs, rfl, upd_same, rvs.mono (Kp.same sm)⟩)
  · rw [if_neg hz] at p1; exact p1.elim
theorem Ext.fresh {ρ ρ' : List Addr} {H H' : Hp} {q : Addr} (e : Ext ρ H ρ' H') (h : H' q = none) (n : q ∉ ρ') : H q = none := by
  cases z : H q with
  | none => rfl
  | some o =>
    by_cases hq : q ∈ ρ
    · obtain ⟨t, rfl⟩ := e.pre
      exact absurd (List.mem_append_left t hq) n
    · rw [e.frame q o z hq] at h; cases h
theorem RH.free {K : PySem.W.Frag} {ρ : List Addr} {H : Hp} {hd : Hd} (r : RH K ρ H hd) {q : Addr} (h : H q = none) : q ∉ ρ := fun z => by
  rcases r.mut z with ⟨_, e⟩ | ⟨_, e⟩ <;> (rw [h] at e; cases e)
theorem PostF.mk {K : PySem.W.Frag} {ρ ρ1 : List Addr} {H H1 : Hp} {hd1 : Hd} {σd : Sd} {σ : St} {l : List D} {vs : List V} {Q : VK} (p : PostF K ρ H σd σ (.ok l hd1) Q) (e1 : Ext ρ H ρ1 H1) (rs1 : RS K ρ1 H1 σd hd1 σ) (r : RDs K ρ1 H1 l vs) :
    ∀ q, H1 q = none → Q (.ref q) (upd H1 q (.lst vs)) := fun q hq => by
  have sm := same_upd (o := HO.lst vs) hq
  have nq := rs1.hp.free hq
  exact p q vs _ ρ1 (e1.trans (Ext.same sm)) (rs1.same sm) (e1.fresh hq nq) upd_same nq (r.mono (Kp.same sm))
theorem mf_lst {es : List Expr} {r : LF} (h : MA X es r) (hz : ∀ σd hd ds hd', r σd hd = .ok ds hd' → ds.length ≤ SZ) : MF X (.List es pos) r := by
  refine PE.imp (pe_lst h) fun σ H Q zq37 => ?_
  obtain ⟨ρ, σd, hd, rs, p⟩ := zq37
  refine ?_
  refine ⟨ρ, σd, hd, rs, ?_⟩
  cases e : r σd hd with
  | exc x h' => rw [e] at p; exact p
  | bad => rw [e] at p; exact p
  | ok ds hd1 =>
    rw [e] at p
    intro vs H1 ρ1 e1 rs1 rvs
    exact ⟨by rw [← RDs.length rvs]; exact sz_line (hz _ _ _ _ e), p.mk e1 rs1 rvs⟩
theorem aCons_len {f : EF} {r : LF} {n : Nat} (h : ∀ σd hd ds hd', r σd hd = .ok ds hd' → ds.length = n) : ∀ σd hd ds hd', aCons f r σd hd = .ok ds hd' → ds.length = n + 1 := by
  intro σd hd ds hd' e
  simp only [aCons] at e
  cases e1 : f σd hd with
  | exc x h' => rw [e1] at e; cases e
  | bad => rw [e1] at e; cases e
  | ok d h1 =>
    rw [e1] at e
    simp only [bind_ok] at e
    cases e2 : r σd h1 with
    | exc x h' => rw [e2] at e; cases e
    | bad => rw [e2] at e; cases e
    | ok ds2 h2 =>
      rw [e2] at e
      simp only [bind_ok] at e
      cases e
      simp [h _ _ _ _ e2]
theorem aNil_len : ∀ σd hd ds hd', aNil σd hd = .ok ds hd' → ds.length = 0 := by
  intro σd hd ds hd' e
  simp only [aNil] at e
  cases e
  rfl
theorem me_new {e : Expr} {r : LF} (h : MF X e r) : ME X e (fNew r) := by
  refine PE.imp h fun σ H Q zq38 => ?_
  obtain ⟨ρ, σd, hd, rs, p⟩ := zq38
  refine ⟨ρ, σd, hd, rs, ?_⟩
  unfold fNew at p
  cases e : r σd hd with
  | exc x h' => rw [e] at p; exact p
  | bad => rw [e] at p; exact p
  | ok ds hd1 =>
    rw [e] at p
    simp only [bind_ok] at p
    intro q vs H1 ρ1 e1 rs1 hq0 hq hn rvs
    by_cases hz : ds.length ≤ SZ
    · rw [if_pos hz] at p
      have rh := rs1.hp.alloc hq hn rvs
      have ex : Ext ρ H (ρ1 ++ [q]) H1 := ⟨by obtain ⟨t, rfl⟩ := e1.pre; exact ⟨t ++ [q], by simp⟩, fun a ha => by
        rcases List.mem_append.mp ha with z | z
        · exact e1.new a z
        · simp at z; subst z; exact .inr hq0, e1.frame⟩
      refine p.at ex (rs.ext ex rh) ?_
      simp only [rD, RD]
      refine ⟨q, ?_, rfl⟩
      rw [← rs1.hp.len]
      simp
    · rw [if_neg hz] at p; exact p.elim
theorem mq_new {e : Expr} {r : LF} (h : MF X e r) : MQ X e r := by
  refine PE.imp h fun σ H Q zq39 => ?_
  obtain ⟨ρ, σd, hd, rs, p⟩ := zq39
  refine ⟨ρ, σd, hd, rs, ?_⟩
  cases e : r σd hd with
  | exc x h' => rw [e] at p; exact p
  | bad => rw [e] at p; exact p
  | ok ds hd1 =>
    rw [e] at p
    intro q vs H1 ρ1 e1 rs1 hq0 hq hn rvs
    exact p (.ref q) H1 ρ1 e1 rs1 ⟨q, vs, rfl, .inl (SqL.of hq), rvs⟩
theorem LitAt.sq {K : PySem.W.Frag} {H : Hp} {a : Addr} {xs : List V} (h : LitAt K H a xs) : SqL K H a xs := by
  rcases h with ⟨o, h⟩ | h
  · exact .inl (.inr ⟨o, h⟩)
  · exact .inr h
theorem seq_rel {K : PySem.W.Frag} {ρ : List Addr} {H : Hp} {hd : Hd} {d : D} {v : V} {l : List D} (r : RH K ρ H hd) (h : RD K ρ H d v) (e : seqOf hd d = some l) : ∃ p vs, v = .ref p ∧ (SqL K H p vs ∨ H p = some (.tup vs)) ∧ RDs K ρ H l vs := by
  cases d <;> simp only [seqOf] at e <;> try (cases e; done)
  · cases e
    simp only [RD] at h
    obtain ⟨p, vs, e1, e2, e3⟩ := h
    exact ⟨p, vs, e1, .inr e2, e3⟩
  · rename_i n
    simp only [RD] at h
    obtain ⟨a, e1, e2⟩ := h
    cases c : hd[n]? with
    | none => rw [c] at e; cases e
    | some x =>
      rw [c] at e
      cases x with
      | dct l => cases e
      | lst l' =>
        cases e
        obtain ⟨vs, q1, q2⟩ := r.cel n _ a c e1
        exact ⟨a, vs, e2, .inl (SqL.of q1), q2⟩
  · cases e
    simp only [RD] at h
    obtain ⟨p, vs, e1, e2, e3⟩ := h
    exact ⟨p, vs, e1, .inl e2.sq, e3⟩
theorem mq_of {e : Expr} {f : EF} (h : ME X e f) : MQ X e (lOf f) := by
  refine PE.imp h fun σ H Q zq40 => ?_
  obtain ⟨ρ, σd, hd, rs, p⟩ := zq40
  refine ⟨ρ, σd, hd, rs, ?_⟩
  refine (Post.bind (R := rD X.K) p).imp fun v H1 zq41 => ?_
  obtain ⟨ρ1, d, hd1, e1, rs1, rv, p1⟩ := zq41
  refine ?_
  cases e : seqOf hd1 d with
  | none => rw [e] at p1; exact p1.elim
  | some l => rw [e] at p1; exact p1.here rs1 (seq_rel rs1.hp rv e)
theorem atI_rel {K : PySem.W.Frag} {ρ : List Addr} {H : Hp} {l : List D} {vs : List V} {i : Int} {d : D} (r : RDs K ρ H l vs) (e : atI l i = some d) : ∃ v, L2.atI vs i = some v ∧ RD K ρ H d v := by
  unfold atI at e
  unfold L2.atI
  have hl := r.length
  have hx : ixN l.length i = L2.ixN vs.length i := by rw [hl]; rfl
  rw [hx] at e
  cases c : L2.ixN vs.length i with
  | none => rw [c] at e; cases e
  | some j =>
    rw [c] at e
    simp only [Option.bind_some] at e ⊢
    exact r.get e
theorem me_at {a b : Expr} {fa fb : EF} (ha : ME X a fa) (hb : ME X b fb) (hs : PlainIx b) : ME X (.Subscript a b pos) (fAt fa fb) := by
  refine me2 (a := a) (b := b) (g := oAt) (pe_ix ix_seq ha hb hs) fun ρ H σd hd σ d k v w Q rs rv rw' p => ?_
  unfold oAt at p
  cases e : seqOf hd d with
  | none => rw [e] at p; exact p.elim
  | some l =>
    rw [e] at p
    cases k <;> first | exact p.elim | skip
    rename_i i
    simp only at p
    cases e2 : atI l i with
    | none => rw [e2] at p; exact p.elim
    | some x =>
      rw [e2] at p
      simp only [RD] at rw'
      obtain ⟨q, vs, hv, sq, rvs⟩ := seq_rel rs.hp rv e
      obtain ⟨u, hu, ru⟩ := atI_rel rvs e2
      rcases sq with sq | sq
      · exact .inl ⟨q, vs, i, u, hv, rw', sq, hu, p.here rs ru⟩
      · exact .inr (.inl ⟨q, vs, i, u, hv, rw', SqT.of sq, hu, p.here rs ru⟩)
theorem me_ix {a b : Expr} {la : LF} {fb : EF} (ha : MF X a la) (hb : ME X b fb) (hs : PlainIx b) : ME X (.Subscript a b pos) (fIx la fb) := by
  refine PE.imp (pe_ix ix_list ha hb hs) fun σ H Q zq42 => ?_
  obtain ⟨ρ, σd, hd, rs, p⟩ := zq42
  refine ⟨ρ, σd, hd, rs, ?_⟩
  unfold fIx at p
  cases e : la σd hd with
  | exc x h' => rw [e] at p; exact p
  | bad => rw [e] at p; exact p
  | ok l hd1 =>
    rw [e] at p
    simp only [bind_ok] at p
    intro q vs H1 ρ1 e1 rs1 hq0 hq hn rvs
    refine ⟨ρ1, σd, hd1, rs1, ?_⟩
    refine (Post.bind (R := rD X.K) (p.ext e1)).imp fun w H2 zq43 => ?_
    obtain ⟨ρ2, k, hd2, e2, rs2, rw', p2⟩ := zq43
    refine ?_
    cases k <;> first | exact p2.elim | skip
    rename_i i
    simp only at p2
    cases e3 : atI l i with
    | none => rw [e3] at p2; exact p2.elim
    | some x =>
      rw [e3] at p2
      simp only [rD, RD] at rw'
      obtain ⟨u, hu, ru⟩ := atI_rel (rvs.mono (rs1.hp.kp e2)) e3
      exact ⟨q, vs, i, u, rfl, rw', SqL.of (e2.frame q _ hq hn), hu, p2.here rs2 ru⟩
end
end Fm
set_option Elab.async false
set_option linter.all false
set_option maxRecDepth 100000
namespace Fm
open PySem PySem.Spec L2
section
variable {X : Cx} {pos : Pos}
noncomputable def B1 (X : Cx) (r : List V → Hp → VK → Prop) (x : Str) (p pos : Pos) (a : Expr) : Prop := ∀ t, PA X [a] t → PE X (.Call (.Name x p) [a] [] pos) (tCB r t)
theorem b1_fn {x : Str} {p : Pos} {a : Expr} {id : String} {r : List V → Hp → VK → Prop} (hc : CallR X (.builtin id) r) (hg : Gl X x) (hm : X.mg x = none) (hv : bootBuiltins x = some (.builtin id)) (hn : x ≠ "__name__" := by decide) (hdb : (x == ("__debug__" : Str)) = false := by decide)
    (he : starEach [a] X.env = (false, eval a X.env) :: starEach [] X.env := by rfl) : B1 X r x p pos a := fun _ ha => pe_callB hc hg hm hv ha hn hdb he
theorem b1_ty {x : Str} {p : Pos} {a : Expr} {T : String} {r : List V → Hp → VK → Prop} (hc : CallR X (.type T) r) (hg : Gl X x) (hm : X.mg x = none) (hv : bootBuiltins x = some (.type T)) (hn : x ≠ "__name__" := by decide) (hdb : (x == ("__debug__" : Str)) = false := by decide)
    (he : starEach [a] X.env = (false, eval a X.env) :: starEach [] X.env := by rfl) : B1 X r x p pos a := fun _ ha => pe_callTy hc hg hm hv ha hn hdb he
theorem me_b1q {x : Str} {p : Pos} {a : Expr} {la : LF} {r : List V → Hp → VK → Prop} {g : List D → Hd → Res D} (hb : B1 X r x p pos a) (ha : MQ X a la)
    (hg : ∀ ρ H σd hd σ l q vs Q, RS X.K ρ H σd hd σ → (SqL X.K H q vs ∨ H q = some (.tup vs)) → RDs X.K ρ H l vs → Post X.K (rD X.K) ρ H σd σ (g l hd) Q → r [.ref q] H Q)
    (hs : starEach [a] X.env = (false, eval a X.env) :: starEach [] X.env := by rfl) : ME X (.Call (.Name x p) [a] [] pos) (fun σ h => (la σ h).bind fun l h => g l h) := by
  refine PE.imp (hb _ (pa_cons ha pa_nil hs)) fun σ H Q zq44 => ?_
  obtain ⟨ρ, σd, hd, rs, pp⟩ := zq44
  refine ⟨ρ, σd, hd, rs, ?_⟩
  refine (Post.bind (R := rQ X.K) pp).imp fun v H1 zq45 => ?_
  obtain ⟨ρ1, l, hd1, e1, rs1, ⟨q, vs, hv, sq, rvs⟩, p1⟩ := zq45
  refine ?_
  subst hv
  exact hg ρ1 H1 σd hd1 σ l q vs Q rs1 sq rvs p1
theorem me_b1 {x : Str} {p : Pos} {a : Expr} {fa : EF} {r : List V → Hp → VK → Prop} {g : D → Hd → Res D} (hb : B1 X r x p pos a) (ha : ME X a fa)
    (hg : ∀ ρ H σd hd σ d v Q, RS X.K ρ H σd hd σ → RD X.K ρ H d v → Post X.K (rD X.K) ρ H σd σ (g d hd) Q → r [v] H Q)
    (hs : starEach [a] X.env = (false, eval a X.env) :: starEach [] X.env := by rfl) : ME X (.Call (.Name x p) [a] [] pos) (fun σ h => (fa σ h).bind fun x h => g x h) := by
  refine PE.imp (hb _ (pa_cons ha pa_nil hs)) fun σ H Q zq46 => ?_
  obtain ⟨ρ, σd, hd, rs, pp⟩ := zq46
  refine ⟨ρ, σd, hd, rs, ?_⟩
  refine (Post.bind (R := rD X.K) pp).imp fun v H1 zq47 => ?_
  obtain ⟨ρ1, d, hd1, e1, rs1, rv, p1⟩ := zq47
  refine ?_
  exact hg ρ1 H1 σd hd1 σ d v Q rs1 rv p1
theorem me_len {p : Pos} {a : Expr} {la : LF} (hg : Gl X "len") (hm : X.mg "len" = none) (ha : MQ X a la) (hs : starEach [a] X.env = (false, eval a X.env) :: starEach [] X.env := by rfl) : ME X (.Call (.Name "len" p) [a] [] pos) (fLen la) :=
  me_b1q (g := fun l h => .ok (.int l.length) h) (b1_fn call_len_seq hg hm PySem.boot_len (he := hs)) ha (fun ρ H σd hd σ l q vs Q rs sq rvs p => ⟨q, vs, rfl, sq.imp id SqT.of, by rw [← rvs.length]; exact p.here rs (by simp only [rD, RD])⟩) hs
theorem me_tupL {p : Pos} {a : Expr} {la : LF} (hg : Gl X "tuple") (hm : X.mg "tuple" = none) (ha : MQ X a la) (hs : starEach [a] X.env = (false, eval a X.env) :: starEach [] X.env := by rfl) : ME X (.Call (.Name "tuple" p) [a] [] pos) (fTupL la) := by
  refine me_b1q (g := fun l h => .ok (.tup l) h) (b1_ty call_tuple_of hg hm (by decide +kernel) (he := hs)) ha (fun ρ H σd hd σ l q vs Q rs sq rvs p => ⟨q, vs, rfl, ?_⟩) hs
  rcases sq with sq | sq
  · refine .inl ⟨sq, fun q' hq => ?_⟩
    have sm := same_upd (o := HO.tup vs) hq
    exact p.at (Ext.same sm) (rs.same sm) (by simp only [rD, RD]; exact ⟨q', vs, rfl, upd_same, rvs.mono (Kp.same sm)⟩)
  · exact .inr ⟨SqT.of sq, p.here rs (by simp only [rD, RD]; exact ⟨q, vs, rfl, sq, rvs⟩)⟩
theorem me_intc {p : Pos} {a : Expr} {fa : EF} (hg : Gl X "int") (hm : X.mg "int" = none) (ha : ME X a fa) (hs : starEach [a] X.env = (false, eval a X.env) :: starEach [] X.env := by rfl) : ME X (.Call (.Name "int" p) [a] [] pos) (fInt fa) := by
  refine me_b1 (g := fun x h => match x with | .int i => .ok (.int i) h | .bl b => .ok (.int (b2i b)) h | _ => .bad) (b1_ty call_int1 hg hm (by decide +kernel) (he := hs)) ha (fun ρ H σd hd σ d v Q rs rv p => ?_) hs
  cases d <;> first | exact p.elim | skip
  · simp only [RD] at rv; subst rv
    exact .inr ⟨_, rfl, p.here rs (by simp only [rD, RD]; rfl)⟩
  · simp only [RD] at rv; subst rv
    exact .inl ⟨_, rfl, p.here rs (by simp only [rD, RD])⟩
theorem preSum_list (ns : List Int) : PySem.preSum (fun i => ns.getD i 0) ns.length = ns.sum := by
  have key : ∀ k, k ≤ ns.length → PySem.preSum (fun i => ns.getD i 0) k = (ns.take k).sum := by
    intro k
    induction k with
    | zero => intro _; simp [PySem.preSum]
    | succ k ih =>
      intro hk
      rw [PySem.preSum, ih (by omega), List.take_add_one, List.getElem?_eq_getElem (by omega), List.sum_append]
      simp [List.getD, List.getElem?_eq_getElem (show k < ns.length by omega)]
  rw [key _ (Nat.le_refl _), List.take_length]
theorem ints_at {its : List Value} {ns : List Int} (r : Vals (ns.map V.int) its) (i : Nat) (v : Value) (h : its.toArray[i]? = some v) : ∃ t, v = .int (ns.getD i 0) t := by
  have h' : its[i]? = some v := by simpa using h
  have hl := r.length
  have hi : i < its.length := (List.getElem?_eq_some_iff.mp h').1
  have hn : i < ns.length := by rw [← hl] at hi; simpa using hi
  obtain ⟨u, hu, ru⟩ := r.get (i := i) (x := .int ns[i]) (by simp [hn])
  rw [h'] at hu
  cases hu
  obtain ⟨t, e⟩ := ru
  exact ⟨t, by rw [e]; simp [List.getD, hn]⟩
theorem call_sumR (hc : X.calm = true) : CallR X (.builtin "sum") (fun xs H Q => ∃ (p : Addr) (ns : List Int), xs = [.ref p] ∧ (SqL X.K H p (ns.map V.int) ∨ SqT X.K H p (ns.map V.int)) ∧ Q (.int ns.sum) H) := by
  intro pins s σ H xs us Q I r q
  obtain ⟨p, ns, rfl, sq, q⟩ := q
  obtain ⟨u, rfl, ru⟩ := Vals.one r
  cases (show u = Value.ref p from ru)
  have fin : ∀ {it : Obj} {h' : Heap} {tk : Nat} {t' : Tok} {n : Nat}, n = ns.length → (∀ b o, b ∉ [s.heap.objs.size] → (s.heap.push it).get? b = some o → h'.get? b = some o) → EP X pins σ Q (.int (PySem.preSum (fun i => ns.getD i 0) n) t') { s with heap := h', toks := tk } := by
    intro it h' tk t' n hn hk
    subst hn
    refine ⟨.int ns.sum, H, I.kept (t' := tk) fun b o e => hk b o (by simp; exact Nat.ne_of_lt (Heap.lt_size e)) (Heap.get?_push_of_some _ e), ⟨t', by rw [preSum_list]⟩, q⟩
  have hA : (X.A.in1).handled = none := I.ok.hd hc
  rcases sq with sq | sq
  · obtain ⟨its, rv, pl, hz⟩ := I.list sq
    have il : s.heap.IsList p its.toArray := pl.isList
    have hlt : p < s.heap.objs.size := by obtain ⟨o, ho, _⟩ := il; exact Heap.lt_size ho
    refine PySem.call_sum_walkG (PySem.wpAny_pyIter_list il ?_)
    refine ⟨s.heap.objs.size, _, [s.heap.objs.size], _, _, _, fun i => ns.getD i 0, rfl, PySem.Walks.list hA s.heap.objs.size p (Nat.ne_of_lt hlt) its.toArray, ⟨⟨_, Heap.get?_push_size _ rfl, rfl, rfl⟩, ?_⟩, ?_, ints_at rv, ?_⟩
    · obtain ⟨o, ho, r⟩ := il; exact ⟨o, Heap.get?_push_of_some _ ho, r⟩
    · intro b hb
      rcases List.mem_cons.mp hb with rfl | hb
      · rw [Heap.size_push]; exact Nat.lt_succ_self _
      · simp at hb; subst hb; rw [Heap.size_push]; exact Nat.lt_succ_of_lt hlt
    · exact fun h' tk t' hk => fin (by simpa using rv.length.symm) hk
  · obtain ⟨its, rv, pl, hz⟩ := I.tuple sq
    have il : s.heap.IsTuple p its.toArray := pl
    have hlt : p < s.heap.objs.size := by obtain ⟨o, ho, _⟩ := il; exact Heap.lt_size ho
    refine PySem.call_sum_walkG (PySem.wpAny_pyIter_tuple il ?_)
    refine ⟨s.heap.objs.size, _, [s.heap.objs.size], _, _, _, fun i => ns.getD i 0, rfl, PySem.Walks.tuple hA s.heap.objs.size p (Nat.ne_of_lt hlt) its.toArray, ⟨⟨_, Heap.get?_push_size _ rfl, rfl, rfl⟩, ?_⟩, ?_, ints_at rv, ?_⟩
    · obtain ⟨o, ho, r⟩ := il; exact ⟨o, Heap.get?_push_of_some _ ho, r⟩
    · intro b hb
      rcases List.mem_cons.mp hb with rfl | hb
      · rw [Heap.size_push]; exact Nat.lt_succ_self _
      · simp at hb; subst hb; rw [Heap.size_push]; exact Nat.lt_succ_of_lt hlt
    · exact fun h' tk t' hk => fin (by simpa using rv.length.symm) hk
theorem ints_rel {K : PySem.W.Frag} {ρ : List Addr} {H : Hp} : ∀ {l : List D} {vs : List V} {is : List Int}, RDs K ρ H l vs → intsD l = some is → vs = is.map V.int
  | [], _, is, r, e => by simp only [intsD] at e; cases e; simp only [RDs] at r; subst r; rfl
  | d :: l, _, is, r, e => by
    simp only [RDs] at r
    obtain ⟨v, vs, rfl, h1, h2⟩ := r
    cases d <;> simp only [intsD] at e <;> try (cases e; done)
    rename_i i
    cases c : intsD l with
    | none => rw [c] at e; cases e
    | some js =>
      rw [c] at e
      cases e
      simp only [RD] at h1
      rw [h1, ints_rel h2 c]
      rfl
theorem me_sum {p : Pos} {a : Expr} {la : LF} (hc : X.calm = true) (hg : Gl X "sum") (hm : X.mg "sum" = none) (ha : MQ X a la) (hs : starEach [a] X.env = (false, eval a X.env) :: starEach [] X.env := by rfl) : ME X (.Call (.Name "sum" p) [a] [] pos) (fSum la) := by
  refine me_b1q (g := fun l h => match intsD l with | some is => .ok (.int is.sum) h | none => .bad) (b1_fn (call_sumR hc) hg hm (by decide +kernel) (he := hs)) ha (fun ρ H σd hd σ l q vs Q rs sq rvs p => ?_) hs
  cases c : intsD l with
  | none => simp only [c] at p; exact p.elim
  | some is =>
    simp only [c] at p
    have e := ints_rel rvs c
    subst e
    exact ⟨q, is, rfl, sq.imp id SqT.of, p.here rs (by simp only [rD, RD])⟩
end
end Fm
set_option Elab.async false
set_option linter.all false
set_option maxRecDepth 100000
namespace Fm
open PySem PySem.Spec L2
section
variable {K : PySem.W.Frag} {ρ : List Addr} {H : Hp}
mutual
theorem peq_same : ∀ {d k : D} {v : V} {b : Bool}, RD K ρ H d v → RD K ρ H k v → peq d k = some b → b = true
  | .int i, k, v, b, h1, h2, e => by
    simp only [RD] at h1; subst h1
    cases k <;> simp only [RD] at h2 <;> try (cases h2; done)
    all_goals first
      | (cases h2; simp only [peq] at e; simpa using e.symm)
      | (obtain ⟨_, _, z, _⟩ := h2; cases z)
      | (obtain ⟨_, _, z⟩ := h2; cases z)
  | .bl i, k, v, b, h1, h2, e => by
    simp only [RD] at h1; subst h1
    cases k <;> simp only [RD] at h2 <;> try (cases h2; done)
    all_goals first
      | (cases h2; simp only [peq] at e; simpa using e.symm)
      | (obtain ⟨_, _, z, _⟩ := h2; cases z)
      | (obtain ⟨_, _, z⟩ := h2; cases z)
  | .str x, k, v, b, h1, h2, e => by
    simp only [RD] at h1; subst h1
    cases k <;> simp only [RD] at h2 <;> try (cases h2; done)
    all_goals first
      | (simp only [peq] at e; simp only [toS, V.str.injEq, PySem.Str.mk.injEq] at h2; have h3 := congrArg Array.toList h2; simp at h3; subst h3; simpa using e.symm)
      | (obtain ⟨_, _, z, _⟩ := h2; cases z)
      | (obtain ⟨_, _, z⟩ := h2; cases z)
  | .non, k, v, b, h1, h2, e => by
    simp only [RD] at h1; subst h1
    cases k <;> simp only [RD] at h2 <;> try (cases h2; done)
    all_goals first
      | (simp only [peq] at e; simpa using e.symm)
      | (obtain ⟨_, _, z, _⟩ := h2; cases z)
      | (obtain ⟨_, _, z⟩ := h2; cases z)
  | .tup xs, k, v, b, h1, h2, e => by
    simp only [RD] at h1
    obtain ⟨p, vs, rfl, hp, r1⟩ := h1
    cases k <;> simp only [peq] at e <;> try (cases e; done)
    · simp only [RD] at h2; cases h2
    · simp only [RD] at h2; cases h2
    · rename_i ys
      simp only [RD] at h2
      obtain ⟨p', vs', z, hp', r2⟩ := h2
      cases z
      rw [hp] at hp'; cases hp'
      cases c : peqs xs ys with
      | none => rw [c] at e; cases e
      | some b' =>
        rw [c] at e
        simp only [Option.map_some, Option.some.injEq] at e
        have := peqs_same r1 r2 c
        subst this
        rw [← e, r1.length, r2.length]
        simp
  | .ref n, k, v, b, h1, h2, e => by cases k <;> simp only [peq] at e <;> cases e
  | .lit l, k, v, b, h1, h2, e => by cases k <;> simp only [peq] at e <;> cases e
  | .exn c l, k, v, b, h1, h2, e => by simp only [RD] at h1
theorem peqs_same : ∀ {xs ys : List D} {vs : List V} {b : Bool}, RDs K ρ H xs vs → RDs K ρ H ys vs → peqs xs ys = some b → b = true
  | [], _, _, _, _, _, e => by simp only [peqs] at e; cases e; rfl
  | x :: xs, [], _, _, _, _, e => by simp only [peqs] at e; cases e; rfl
  | x :: xs, y :: ys, _, b, h1, h2, e => by
    simp only [RDs] at h1 h2
    obtain ⟨v, r, rfl, a1, a2⟩ := h1
    obtain ⟨v', r', z, b1, b2⟩ := h2
    cases z
    simp only [peqs] at e
    cases c : peq x y with
    | none => rw [c] at e; cases e
    | some p =>
      cases c2 : peqs xs ys with
      | none => rw [c, c2] at e; cases e
      | some q =>
        rw [c, c2] at e
        simp only [Option.some.injEq] at e
        rw [← e, peq_same a1 b1 c, peqs_same a2 b2 c2]; rfl
end
end
section
variable {K : PySem.W.Frag} {ρ : List Addr} {H : Hp} {P : Program} {w : World} {s : Shared}
theorem tup_at (hok : HOk P w H s.heap) {p : Addr} {vs : List V} (h : H p = some (.tup vs)) : ∃ its : List Value, Vals vs its ∧ s.heap.IsTuple p its.toArray := by
  obtain ⟨z, its, r, t⟩ := hok p _ h
  exact ⟨its, r, t⟩
mutual
theorem peq_at (hok : HOk P w H s.heap) : ∀ {d k : D} {v v' : V} {u u' : Value} {b : Bool} {A : Around}, RD K ρ H d v → RD K ρ H k v' → RelV v u → RelV v' u' → peq d k = some b → A.units + dep d < cLine → SeqAt.EqAt A s u u' b
  | .int i, k, v, v', u, u', b, A, h1, h2, r1, r2, e, hu => by
    simp only [RD] at h1; subst h1
    obtain ⟨t, rfl⟩ := r1
    cases k <;> simp only [peq] at e <;> try (cases e; done)
    all_goals cases e
    · simp only [RD] at h2; subst h2; cases r2; exact SeqAt.EqAt.int_none i t
    · simp only [RD] at h2; subst h2; cases r2; exact SeqAt.EqAt.int_bool i t _
    · simp only [RD] at h2; subst h2; obtain ⟨t', rfl⟩ := r2; exact SeqAt.EqAt.int_int i t _ t'
    · simp only [RD] at h2; obtain ⟨p, vs, rfl, hp, _⟩ := h2; cases r2
      obtain ⟨its, _, il⟩ := tup_at hok hp
      exact SeqAt.EqAt.int_tuple i t il (Nat.lt_of_le_of_lt (Nat.le_add_right _ _) hu)
  | .bl i, k, v, v', u, u', b, A, h1, h2, r1, r2, e, hu => by
    simp only [RD] at h1; subst h1
    cases r1
    cases k <;> simp only [peq] at e <;> try (cases e; done)
    all_goals cases e
    · simp only [RD] at h2; subst h2; cases r2; exact SeqAt.EqAt.bool_bool i _
    · simp only [RD] at h2; subst h2; obtain ⟨t', rfl⟩ := r2; exact SeqAt.EqAt.bool_int i _ t'
  | .str x, k, v, v', u, u', b, A, h1, h2, r1, r2, e, hu => by
    simp only [RD] at h1; subst h1
    obtain ⟨t, rfl⟩ := r1
    cases k <;> simp only [peq] at e <;> try (cases e; done)
    all_goals cases e
    rename_i y
    simp only [RD] at h2; subst h2; obtain ⟨t', rfl⟩ := r2
    have : decide (x = y) = (toS x == toS y) := by
      by_cases z : x = y
      · subst z; simp
      · have : ¬ toS x = toS y := fun q => z (by have := congrArg (fun (s : Str) => s.cps.toList) q; simpa [toS] using this)
        simp [z, this]
    rw [this]
    exact SeqAt.EqAt.str_str _ t _ t'
  | .non, k, v, v', u, u', b, A, h1, h2, r1, r2, e, hu => by
    simp only [RD] at h1; subst h1
    cases r1
    cases k <;> simp only [peq] at e <;> try (cases e; done)
    all_goals cases e
    · simp only [RD] at h2; subst h2; cases r2; exact SeqAt.EqAt.same _
    · simp only [RD] at h2; subst h2; obtain ⟨t', rfl⟩ := r2; exact SeqAt.EqAt.none_int _ t'
    · simp only [RD] at h2; obtain ⟨p, vs, rfl, hp, _⟩ := h2; cases r2
      obtain ⟨its, _, il⟩ := tup_at hok hp
      exact SeqAt.EqAt.none_tuple il (Nat.lt_of_le_of_lt (Nat.le_add_right _ _) hu)
  | .tup xs, k, v, v', u, u', b, A, h1, h2, r1, r2, e, hu => by
    have h1' := h1
    simp only [RD] at h1
    obtain ⟨p, vs, rfl, hp, q1⟩ := h1
    cases r1
    obtain ⟨its, rv, il⟩ := tup_at hok hp
    have hu0 : A.units < cLine := Nat.lt_of_le_of_lt (Nat.le_add_right _ _) hu
    cases k <;> simp only [peq] at e <;> try (cases e; done)
    · cases e; simp only [RD] at h2; subst h2; cases r2; exact SeqAt.EqAt.tuple_none il hu0
    · cases e; simp only [RD] at h2; subst h2; obtain ⟨t', rfl⟩ := r2; exact SeqAt.EqAt.tuple_int _ t' il hu0
    · rename_i ys
      have h2' := h2
      simp only [RD] at h2
      obtain ⟨p', vs', rfl, hp', q2⟩ := h2
      cases r2
      by_cases hpp : p = p'
      · subst hpp
        have : b = true := peq_same h1' h2' (by simp only [peq]; exact e)
        subst this
        exact SeqAt.EqAt.same _
      · obtain ⟨its', rv', il'⟩ := tup_at hok hp'
        cases c : peqs xs ys with
        | none => rw [c] at e; cases e
        | some b' =>
          rw [c] at e
          simp only [Option.map_some, Option.some.injEq] at e
          obtain ⟨f, hf, ha⟩ := peqs_at hok (A := A.in1) q1 q2 rv rv' c (by simp only [dep] at hu; show A.units + 1 + deps xs < cLine; omega)
          have := SeqAt.RcAt.tuples (s := s) (A := A) (e := f) il il' hu0 (fun j h1 h2 => by simpa using hf j (by simpa using h1) (by simpa using h2))
          rw [← e, ← ha, q1.length, q2.length, rv.length, rv'.length]
          refine SeqAt.EqAt.of_refs hpp ?_
          rw [show (decide (its.length = its'.length)) = (its.length == its'.length) from rfl]
          simpa using this
  | .ref n, k, v, v', u, u', b, A, h1, h2, r1, r2, e, hu => by cases k <;> simp only [peq] at e <;> cases e
  | .lit l, k, v, v', u, u', b, A, h1, h2, r1, r2, e, hu => by cases k <;> simp only [peq] at e <;> cases e
  | .exn c l, k, v, v', u, u', b, A, h1, h2, r1, r2, e, hu => by simp only [RD] at h1
theorem peqs_at (hok : HOk P w H s.heap) : ∀ {xs ys : List D} {vs vs' : List V} {us us' : List Value} {b : Bool} {A : Around}, RDs K ρ H xs vs → RDs K ρ H ys vs' → Vals vs us → Vals vs' us' → peqs xs ys = some b → A.units + deps xs < cLine →
    ∃ f : Nat → Bool, (∀ j (h1 : j < us.length) (h2 : j < us'.length), SeqAt.EqAt A s us[j] us'[j] (f j)) ∧ (List.range (min us.length us'.length)).all f = b
  | [], ys, vs, vs', us, us', b, A, h1, h2, r1, r2, e, hu => by
    simp only [RDs] at h1; subst h1; cases r1
    simp only [peqs] at e; cases e
    exact ⟨fun _ => true, fun j h1 => by simp at h1, by simp⟩
  | x :: xs, [], vs, vs', us, us', b, A, h1, h2, r1, r2, e, hu => by
    simp only [RDs] at h2; subst h2; cases r2
    simp only [peqs] at e; cases e
    exact ⟨fun _ => true, fun j h1 h2 => by simp at h2, by simp⟩
  | x :: xs, y :: ys, vs, vs', us, us', b, A, h1, h2, r1, r2, e, hu => by
    simp only [RDs] at h1 h2
    obtain ⟨v, r, rfl, a1, a2⟩ := h1
    obtain ⟨v', r', rfl, b1, b2⟩ := h2
    cases r1 with
    | cons p1 p2 =>
      cases r2 with
      | cons s1 s2 =>
        simp only [peqs] at e
        cases c : peq x y with
        | none => rw [c] at e; cases e
        | some p =>
          cases c2 : peqs xs ys with
          | none => rw [c, c2] at e; cases e
          | some q =>
            rw [c, c2] at e
            simp only [Option.some.injEq] at e
            simp only [deps] at hu
            have g1 := peq_at hok (A := A) a1 b1 p1 s1 c (by omega)
            obtain ⟨f, hf, ha⟩ := peqs_at hok (A := A) a2 b2 p2 s2 c2 (by omega)
            refine ⟨fun j => match j with | 0 => p | j + 1 => f j, fun j h1 h2 => ?_, ?_⟩
            · cases j with
              | zero => exact g1
              | succ j => exact hf j (by simpa using h1) (by simpa using h2)
            · rw [← e, ← ha, List.length_cons, List.length_cons, Nat.succ_min_succ, List.range_succ_eq_map, List.all_cons, List.all_map]
              rfl
end
theorem peq_rc (hok : HOk P w H s.heap) {d k : D} {v v' : V} {u u' : Value} {b : Bool} {A : Around} (h1 : RD K ρ H d v) (h2 : RD K ρ H k v') (r1 : RelV v u) (r2 : RelV v' u') (e : peq d k = some b) (hu : A.units + dep d < cLine) :
    SeqAt.RcAt A s u u' b ∧ SeqAt.RcNeAt A s u u' (!b) := by
  have hu0 : A.units < cLine := Nat.lt_of_le_of_lt (Nat.le_add_right _ _) hu
  cases d <;> simp only [RD] at h1
  · subst h1; cases r1
    cases k <;> simp only [peq] at e <;> try (cases e; done)
    all_goals cases e
    · simp only [RD] at h2; subst h2; cases r2; exact ⟨SeqAt.RcAt.none_none, SeqAt.RcNeAt.none_none⟩
    · simp only [RD] at h2; subst h2; obtain ⟨t', rfl⟩ := r2; exact ⟨SeqAt.RcAt.none_int _ t', SeqAt.RcNeAt.none_int _ t'⟩
    · simp only [RD] at h2; obtain ⟨p, vs, rfl, hp, _⟩ := h2; cases r2
      obtain ⟨its, _, il⟩ := tup_at hok hp
      exact ⟨SeqAt.RcAt.none_tuple il hu0, SeqAt.RcNeAt.none_tuple il hu0⟩
  · subst h1; cases r1
    cases k <;> simp only [peq] at e <;> try (cases e; done)
    all_goals cases e
    · simp only [RD] at h2; subst h2; cases r2; exact ⟨SeqAt.RcAt.bool_bool _ _, SeqAt.RcNeAt.bool_bool _ _⟩
    · simp only [RD] at h2; subst h2; obtain ⟨t', rfl⟩ := r2; exact ⟨SeqAt.RcAt.bool_int _ _ t', SeqAt.RcNeAt.bool_int _ _ t'⟩
  · subst h1; obtain ⟨t, rfl⟩ := r1
    cases k <;> simp only [peq] at e <;> try (cases e; done)
    all_goals cases e
    · simp only [RD] at h2; subst h2; cases r2; exact ⟨SeqAt.RcAt.int_none _ t, SeqAt.RcNeAt.int_none _ t⟩
    · simp only [RD] at h2; subst h2; cases r2; exact ⟨SeqAt.RcAt.int_bool _ t _, SeqAt.RcNeAt.int_bool _ t _⟩
    · simp only [RD] at h2; subst h2; obtain ⟨t', rfl⟩ := r2; exact ⟨SeqAt.RcAt.int_int _ t _ t', SeqAt.RcNeAt.int_int _ t _ t'⟩
    · simp only [RD] at h2; obtain ⟨p, vs, rfl, hp, _⟩ := h2; cases r2
      obtain ⟨its, _, il⟩ := tup_at hok hp
      exact ⟨SeqAt.RcAt.int_tuple _ t il hu0, SeqAt.RcNeAt.int_tuple _ t il hu0⟩
  · subst h1; obtain ⟨t, rfl⟩ := r1
    cases k <;> simp only [peq] at e <;> try (cases e; done)
    all_goals cases e
    rename_i x y
    simp only [RD] at h2; subst h2; obtain ⟨t', rfl⟩ := r2
    have : decide (x = y) = (toS x == toS y) := by
      by_cases z : x = y
      · subst z; simp
      · have : ¬ toS x = toS y := fun q => z (by have := congrArg (fun (s : Str) => s.cps.toList) q; simpa [toS] using this)
        simp [z, this]
    rw [this]
    exact ⟨SeqAt.RcAt.str_str _ t _ t', SeqAt.RcNeAt.str_str _ t _ t'⟩
  · rename_i xs
    obtain ⟨p, vs, rfl, hp, q1⟩ := h1
    cases r1
    obtain ⟨its, rv, il⟩ := tup_at hok hp
    cases k <;> simp only [peq] at e <;> try (cases e; done)
    · cases e; simp only [RD] at h2; subst h2; cases r2; exact ⟨SeqAt.RcAt.tuple_none il hu0, SeqAt.RcNeAt.tuple_none il hu0⟩
    · cases e; simp only [RD] at h2; subst h2; obtain ⟨t', rfl⟩ := r2; exact ⟨SeqAt.RcAt.tuple_int _ t' il hu0, SeqAt.RcNeAt.tuple_int _ t' il hu0⟩
    · rename_i ys
      simp only [RD] at h2
      obtain ⟨p', vs', rfl, hp', q2⟩ := h2
      cases r2
      obtain ⟨its', rv', il'⟩ := tup_at hok hp'
      cases c : peqs xs ys with
      | none => rw [c] at e; cases e
      | some b' =>
        rw [c] at e
        simp only [Option.map_some, Option.some.injEq] at e
        obtain ⟨f, hf, ha⟩ := peqs_at hok (A := A.in1) q1 q2 rv rv' c (by simp only [dep] at hu; show A.units + 1 + deps xs < cLine; omega)
        have g1 := SeqAt.RcAt.tuples (s := s) (A := A) (e := f) il il' hu0 (fun j h1 h2 => by simpa using hf j (by simpa using h1) (by simpa using h2))
        have g2 := SeqAt.RcNeAt.tuples (s := s) (A := A) (e := f) il il' hu0 (fun j h1 h2 => by simpa using hf j (by simpa using h1) (by simpa using h2))
        rw [← e, ← ha, q1.length, q2.length, rv.length, rv'.length, show (decide (its.length = its'.length)) = (its.length == its'.length) from rfl]
        exact ⟨by simpa using g1, by simpa using g2⟩
  · cases k <;> simp only [peq] at e <;> cases e
  · cases k <;> simp only [peq] at e <;> cases e
end
section
variable {X : Cx}
theorem lst_rel {K : PySem.W.Frag} {ρ : List Addr} {H : Hp} {hd : Hd} {d : D} {v : V} {l : List D} (r : RH K ρ H hd) (h : RD K ρ H d v) (e : lstOf hd d = some l) : ∃ p vs, v = .ref p ∧ SqL K H p vs ∧ RDs K ρ H l vs := by
  cases d <;> simp only [lstOf] at e <;> try (cases e; done)
  · rename_i n
    simp only [RD] at h
    obtain ⟨a, e1, e2⟩ := h
    cases c : hd[n]? with
    | none => rw [c] at e; cases e
    | some x =>
      rw [c] at e
      cases x with
      | dct l => cases e
      | lst l' =>
        cases e
        obtain ⟨vs, q1, q2⟩ := r.cel n _ a c e1
        exact ⟨a, vs, e2, SqL.of q1, q2⟩
  · cases e
    simp only [RD] at h
    obtain ⟨p, vs, e1, e2, e3⟩ := h
    exact ⟨p, vs, e1, e2.sq, e3⟩
theorem eqG_rc {pins : List (Addr × Obj)} {σ : St} {H : Hp} {s : Shared} {ρ : List Addr} {hd : Hd} {d k : D} {v v' : V} {u u' : Value} {b : Bool} (hu : X.A.units + 24 < cLine) (I : Inv X pins σ H s) (r : RH X.K ρ H hd) (h1 : RD X.K ρ H d v) (h2 : RD X.K ρ H k v')
    (r1 : RelV v u) (r2 : RelV v' u') (e : eqG hd d k = some b) : SeqAt.RcAt X.A s u u' b ∧ SeqAt.RcNeAt X.A s u u' (!b) := by
  have hu0 : X.A.units < cLine := by omega
  simp only [eqG] at e
  cases c1 : lstOf hd d with
  | none =>
    cases c2 : lstOf hd k with
    | some l => rw [c1, c2] at e; cases e
    | none =>
      rw [c1, c2] at e
      simp only at e
      split at e
      · rename_i hd20
        exact peq_rc I.hok h1 h2 r1 r2 e (by omega)
      · cases e
  | some xs =>
    cases c2 : lstOf hd k with
    | none => rw [c1, c2] at e; cases e
    | some ys =>
      rw [c1, c2] at e
      simp only [eqL] at e
      obtain ⟨p, vs, rfl, s1, q1⟩ := lst_rel r h1 c1
      obtain ⟨p', vs', rfl, s2, q2⟩ := lst_rel r h2 c2
      cases r1; cases r2
      obtain ⟨its, rv, pl, _⟩ := I.list s1
      obtain ⟨its', rv', pl', _⟩ := I.list s2
      have il : s.heap.IsList p its.toArray := pl.isList
      have il' : s.heap.IsList p' its'.toArray := pl'.isList
      have l1 : xs.length = its.length := q1.length.trans rv.length
      have l2 : ys.length = its'.length := q2.length.trans rv'.length
      split at e
      · rename_i hd20
        split at e
        · rename_i hl
          obtain ⟨f, hf, ha⟩ := peqs_at I.hok (A := X.A.in1) q1 q2 rv rv' e (by show X.A.units + 1 + deps xs < cLine; omega)
          have hs : its.toArray.size = its'.toArray.size := by simp; omega
          have g1 := SeqAt.RcAt.lists (s := s) (A := X.A) (e := f) il il' hs hu0 (fun j h1 h2 => by simpa using hf j (by simpa using h1) (by simpa using h2))
          have g2 := SeqAt.RcNeAt.lists (s := s) (A := X.A) (e := f) il il' hs hu0 (fun j h1 h2 => by simpa using hf j (by simpa using h1) (by simpa using h2))
          have hm : min its.length its'.length = its.length := by omega
          rw [hm] at ha
          rw [← ha]
          exact ⟨by simpa using g1, by simpa using g2⟩
        · rename_i hl
          cases e
          have hs : (its.toArray.size != its'.toArray.size) = true := by simp; omega
          exact ⟨SeqAt.RcAt.lists_lengths il il' hs hu0, SeqAt.RcNeAt.lists_lengths il il' hs hu0⟩
      · cases e
noncomputable def rEqG (K : PySem.W.Frag) (f : Bool → Bool) : R2 := fun x y H Q => ∃ ρ hd d k b, RH K ρ H hd ∧ RD K ρ H d x ∧ RD K ρ H k y ∧ eqG hd d k = some b ∧ Q (.bl (f b)) H
theorem op_eqG (hu : X.A.units + 24 < cLine) : OpR X (compareOp .Eq) (rEqG X.K id) := by
  intro pins s σ H x y v u Q I rx ry h
  obtain ⟨ρ, hd, d, k, b, r, h1, h2, e, q⟩ := h
  exact (eqG_rc hu I r h1 h2 rx ry e).1 _ _ _ _ ⟨.bl b, H, I, rfl, q⟩
theorem op_neG (hu : X.A.units + 24 < cLine) : OpR X (compareOp .NotEq) (rEqG X.K not) := by
  intro pins s σ H x y v u Q I rx ry h
  obtain ⟨ρ, hd, d, k, b, r, h1, h2, e, q⟩ := h
  exact (eqG_rc hu I r h1 h2 rx ry e).2 _ _ _ _ ⟨.bl (!b), H, I, rfl, q⟩
theorem og_eq {K : PySem.W.Frag} : Og K oEq (rEqG K id) := by
  intro ρ H σd hd σ d k v w Q rs rv rw' p
  unfold oEq at p
  cases e : eqG hd d k with
  | none => rw [e] at p; exact p.elim
  | some b => rw [e] at p; exact ⟨ρ, hd, d, k, b, rs.hp, rv, rw', e, p.here rs (by simp only [rD, RD]; rfl)⟩
theorem og_ne {K : PySem.W.Frag} : Og K oNe (rEqG K not) := by
  intro ρ H σd hd σ d k v w Q rs rv rw' p
  unfold oNe at p
  cases e : eqG hd d k with
  | none => rw [e] at p; exact p.elim
  | some b => rw [e] at p; exact ⟨ρ, hd, d, k, b, rs.hp, rv, rw', e, p.here rs (by simp only [rD, RD])⟩
end
end Fm
set_option Elab.async false
set_option linter.all false
set_option maxRecDepth 100000
namespace Fm
open PySem PySem.Spec L2
section
variable {K : PySem.W.Frag} {ρ ρ' : List Addr} {H H' : Hp} {hd hd' : Hd} {σd : Sd} {σ : St}
theorem PostS.outE {r : Res D} {k : D → Hd → Out} {En : Ends} (p : PostS K ρ H (outE r σd k) En) :
    Post K (rD K) ρ H σd σ r (fun v H' => ∃ ρ' d hd', Ext ρ H ρ' H' ∧ RS K ρ' H' σd hd' σ ∧ RD K ρ' H' d v ∧ PostS K ρ' H' (k d hd') En) := by
  cases r with
  | ok d h' => exact fun b H' ρ' ex rs q => ⟨ρ', d, h', ex, rs, q, PostS.ext ex p⟩
  | exc x h' => exact p
  | bad => exact p
theorem RSt.set (r : RSt K ρ H σd σ) {d : D} {v : V} (i : Nat) (h : RD K ρ H d v) : RSt K ρ H (σd.set i (some d)) (σ.set i (some v)) := by
  refine ⟨by simp [r.len], fun j x e => ?_⟩
  by_cases hj : i = j
  · subst hj
    by_cases hl : i < σd.length
    · simp only [slot, List.getElem?_set_self hl] at e
      cases e
      exact ⟨v, by rw [List.getElem?_set_self (by rw [← r.len]; exact hl)], h⟩
    · simp only [slot] at e
      rw [List.getElem?_eq_none (by simp; omega)] at e
      cases e
  · simp only [slot, List.getElem?_set_ne hj] at e
    rw [List.getElem?_set_ne hj]
    exact r.at' j x (by simpa only [slot] using e)
noncomputable def liftG (K : PySem.W.Frag) (g : GF) : TG := fun v σ H Q => ∃ ρ σd hd d σd', RS K ρ H σd hd σ ∧ RD K ρ H d v ∧ g d σd = some σd' ∧ ∀ σ', RS K ρ H σd' hd σ' → Q σ' H
noncomputable def putAll (σ : Sd) (l : List Nat) (xs : List D) : Sd := (l.zip xs).foldl (fun σ p => σ.set p.1 (some p.2)) σ
noncomputable def liftGs (K : PySem.W.Frag) (l : List Nat) : TGs := fun vs σ H Q => ∃ ρ σd hd ds, RS K ρ H σd hd σ ∧ RDs K ρ H ds vs ∧ ds.length = l.length ∧ ∀ σ', RS K ρ H (putAll σd l ds) hd σ' → Q σ' H
end
noncomputable def MG (X : Cx) (tg : Expr) (g : GF) : Prop := PG X tg (liftG X.K g)
noncomputable def MGs (X : Cx) (ts : List Expr) (l : List Nat) : Prop := PGs X ts (liftGs X.K l)
section
variable {X : Cx} {pos : Pos}
theorem PG.imp {tg : Expr} {t u : TG} (h : PG X tg t) (i : ∀ v σ H Q, u v σ H Q → t v σ H Q) : PG X tg u := fun pins s σ H v w Q I r q => h pins s σ H v w Q I r (i v σ H Q q)
theorem PGs.imp {tg : List Expr} {t u : TGs} (h : PGs X tg t) (i : ∀ v σ H Q, u v σ H Q → t v σ H Q) : PGs X tg u := fun pins s σ H v w Q I r q => h pins s σ H v w Q I r (i v σ H Q q)
theorem mg_name {i : Nat} {x : Str} (hN : X.N.Nodup) (hi : X.N[i]? = some x) (hx : Loc X.env.scope x) (hf : X.fn x = true ∨ X.env.scope.names.lookup x = some .local := by first | exact .inl rfl | exact .inr rfl | assumption) : MG X (.Name x pos) (gN i) := by
  refine PG.imp (pg_name hN hi hx hf) fun v σ H Q zq48 => ?_
  obtain ⟨ρ, σd, hd, d, σd', rs, rv, e, q⟩ := zq48
  refine ?_
  simp only [gN, Option.some.injEq] at e
  subst e
  exact q _ ⟨rs.hp, rs.st.set i rv⟩
theorem mgs_nil : MGs X [] [] := by
  refine PGs.imp pgs_nil fun vs σ H Q zq49 => ?_
  obtain ⟨ρ, σd, hd, ds, rs, rv, e, q⟩ := zq49
  refine ?_
  have : ds = [] := by simpa using e
  subst this
  simp only [RDs] at rv
  exact ⟨rv, q σ rs⟩
theorem mgs_cons {e : Expr} {es : List Expr} {i : Nat} {l : List Nat} (h1 : MG X e (gN i)) (h2 : MGs X es l)
    (hs : (assignEach (e :: es) X.env).map (·.2) = assign e X.env :: (assignEach es X.env).map (·.2) := by rfl) : MGs X (e :: es) (i :: l) := by
  refine PGs.imp (pgs_cons h1 h2 hs) fun vs σ H Q zq50 => ?_
  obtain ⟨ρ, σd, hd, ds, rs, rv, e, q⟩ := zq50
  refine ?_
  cases ds with
  | nil => simp at e
  | cons d ds =>
    simp only [RDs] at rv
    obtain ⟨v, r, rfl, h1, h2⟩ := rv
    refine ⟨v, r, rfl, ρ, σd, hd, d, _, rs, h1, rfl, fun σ' rs' => ?_⟩
    exact ⟨ρ, _, hd, ds, rs', h2, by simpa using e, fun σ2 rs2 => q σ2 rs2⟩
theorem mg_tup {es : List Expr} {k : Nat} {l : List Nat} (hc : X.calm = true) (h : MGs X es l)
    (hn : (assignEach es X.env).length = l.length := by rfl) (hst : (assignEach es X.env).findIdx? (·.1) = none := by rfl) : MG X (.Tuple es k pos) (gT l) := by
  refine PG.imp (pg_tup hc h hn hst) fun v σ H Q zq51 => ?_
  obtain ⟨ρ, σd, hd, d, σd', rs, rv, e, q⟩ := zq51
  refine ?_
  cases d <;> simp only [gT] at e <;> try (cases e; done)
  rename_i xs
  split at e
  · rename_i hl
    cases e
    simp only [RD] at rv
    obtain ⟨p, vs, rfl, hp, r⟩ := rv
    exact ⟨p, vs, rfl, SqT.of hp, by rw [← r.length]; exact hl, ρ, σd, hd, xs, rs, r, hl, q⟩
  · cases e
theorem mss_nil : MSs X [] sNil := PSs.imp pss_nil fun En σ H ⟨ρ, σd, hd, rs, p⟩ => p σ H ρ Ext.refl rs
theorem mss_cons {st : Stmt} {rest : List Stmt} {a b : SF} (h1 : MS X st a) (h2 : MSs X rest b) : MSs X (st :: rest) (sSeq a b) := by
  refine PSs.imp (pss_cons h1 h2) fun En σ H zq52 => ?_
  obtain ⟨ρ, σd, hd, rs, p⟩ := zq52
  refine ⟨ρ, σd, hd, rs, ?_⟩
  unfold sSeq at p
  cases e : a σd hd with
  | nx σ1 h1 => rw [e] at p; exact fun σ' H' ρ' ex rs' => ⟨ρ', σ1, h1, rs', PostS.ext ex p⟩
  | rt d h1 => rw [e] at p; exact p
  | bk σ1 h1 => rw [e] at p; exact p
  | ct σ1 h1 => rw [e] at p; exact p
  | exc x σ1 h1 => rw [e] at p; exact p
  | bad => rw [e] at p; exact p
theorem mss_one {st : Stmt} {a : SF} (h : MS X st a) : MSs X [st] a := pss_one h
theorem ms_bad {st : Stmt} : MS X st sBad := PS.imp ps_never fun En σ H ⟨ρ, σd, hd, rs, p⟩ => p.elim
theorem ms_ret {e : Expr} {f : EF} (h : ME X e f) : MS X (.Return (some e) pos) (sRet f) := by
  refine PS.imp (ps_ret h) fun En σ H zq53 => ?_
  obtain ⟨ρ, σd, hd, rs, p⟩ := zq53
  refine ⟨ρ, σd, hd, rs, ?_⟩
  refine (PostS.outE p).imp fun v H1 zq54 => ?_
  obtain ⟨ρ1, d, hd1, e1, rs1, rv, p1⟩ := zq54
  refine ?_
  exact p1 v H1 ρ1 Ext.refl rs1.hp rv
theorem ms_expr {e : Expr} {f : EF} (h : ME X e f) (hs : swapsWith e none pos.line X.env = pure false := by rfl) : MS X (.Expr e pos) (sExp f) := by
  refine PS.imp (ps_expr h hs) fun En σ H zq55 => ?_
  obtain ⟨ρ, σd, hd, rs, p⟩ := zq55
  refine ⟨ρ, σd, hd, rs, ?_⟩
  refine (PostS.outE p).imp fun v H1 zq56 => ?_
  obtain ⟨ρ1, d, hd1, e1, rs1, rv, p1⟩ := zq56
  refine ?_
  exact p1 σ H1 ρ1 Ext.refl rs1
theorem ms_if {c : Expr} {a b : List Stmt} {t : TF} {fa fb : SF} (hc : MT X c t) (ha : MSs X a fa) (hb : MSs X b fb) : MS X (.If c a b pos) (sIf t fa fb) := by
  refine PS.imp (ps_if hc ha hb) fun En σ H zq57 => ?_
  obtain ⟨ρ, σd, hd, rs, p⟩ := zq57
  refine ⟨ρ, σd, hd, rs, ?_⟩
  unfold sIf at p
  cases e : t σd hd with
  | ok c h1 =>
    rw [e] at p
    intro b H' ρ' ex rs' q
    cases q
    cases c with
    | true => simp only [if_true] at p ⊢; exact ⟨ρ', σd, h1, rs', PostS.ext ex p⟩
    | false => simp only [Bool.false_eq_true, if_false] at p ⊢; exact ⟨ρ', σd, h1, rs', PostS.ext ex p⟩
  | exc x h1 => rw [e] at p; exact p
  | bad => rw [e] at p; exact p
theorem ms_set {i : Nat} {x : Str} {e : Expr} {f : EF} {pos' : Pos} (hN : X.N.Nodup) (hi : X.N[i]? = some x) (hx : Loc X.env.scope x) (he : ME X e f) (hs : swapsWith e (some (.Name x pos')) pos.line X.env = pure false := by rfl) (hf : X.fn x = true ∨ X.env.scope.names.lookup x = some .local := by first | exact .inl rfl | exact .inr rfl | assumption) :
    MS X (.Assign [.Name x pos'] e pos) (sSet (gN i) f) := by
  refine PS.imp (ps_set hN hi hx he hs hf) fun En σ H zq58 => ?_
  obtain ⟨ρ, σd, hd, rs, p⟩ := zq58
  refine ⟨ρ, σd, hd, rs, ?_⟩
  refine (PostS.outE p).imp fun v H1 zq59 => ?_
  obtain ⟨ρ1, d, hd1, e1, rs1, rv, p1⟩ := zq59
  refine ?_
  exact p1 _ H1 ρ1 Ext.refl ⟨rs1.hp, rs1.st.set i rv⟩
theorem ms_asg {tg e : Expr} {f : EF} {g : GF} (he : ME X e f) (hg : MG X tg g) (hs : swapsWithSole [tg] e pos.line X.env = pure false := by rfl) (hw : swappedStores [tg] e X.env = pure none := by rfl)
    (h1 : (assignEach [tg] X.env).map (·.2) = [assign tg X.env] := by rfl) : MS X (.Assign [tg] e pos) (sSet g f) := by
  refine PS.imp (ps_asg he hg hs hw h1) fun En σ H zq60 => ?_
  obtain ⟨ρ, σd, hd, rs, p⟩ := zq60
  refine ⟨ρ, σd, hd, rs, ?_⟩
  refine (PostS.outE p).imp fun v H1 zq61 => ?_
  obtain ⟨ρ1, d, hd1, e1, rs1, rv, p1⟩ := zq61
  refine ?_
  cases c : g d σd with
  | none => rw [c] at p1; exact p1.elim
  | some σ1 => rw [c] at p1; exact ⟨ρ1, σd, hd1, d, σ1, rs1, rv, c, fun σ' rs' => p1 σ' H1 ρ1 Ext.refl rs'⟩
theorem ixN_eq : Fm.ixN = L2.ixN := rfl
theorem ms_put {o i e : Expr} {fo fi fe : EF} {p2 : Pos} (he : ME X e fe) (ho : ME X o fo) (hi : ME X i fi) (hs : swapsWithSole [.Subscript o i p2] e pos.line X.env = pure false := by rfl) (hw : swappedStores [.Subscript o i p2] e X.env = pure none := by rfl)
    (h1 : (assignEach [.Subscript o i p2] X.env).map (·.2) = [assign (.Subscript o i p2) X.env] := by rfl) (ha : ∀ v, assign (.Subscript o i p2) X.env v = (do
      let ov ← holding [v] (eval o X.env)
      let iv ← holding [v, ov] (eval i X.env)
      standAt p2
      holding [v, ov, iv] (setItem ov iv v)
      release [v, ov, iv] []) := by intro _; rfl) : MS X (.Assign [.Subscript o i p2] e pos) (sPut fo fi fe) := by
  refine PS.imp (ps_asg he (pg_sub ho hi set_list ha) hs hw h1) fun En σ H zq62 => ?_
  obtain ⟨ρ, σd, hd, rs, p⟩ := zq62
  refine ⟨ρ, σd, hd, rs, ?_⟩
  refine (PostS.outE p).imp fun v H1 zq63 => ?_
  obtain ⟨ρ1, d, hd1, e1, rs1, rv, p1⟩ := zq63
  refine ?_
  refine ⟨ρ1, σd, hd1, rs1, ?_⟩
  refine (PostS.outE p1).imp fun vo H2 zq64 => ?_
  obtain ⟨ρ2, dO, hd2, e2, rs2, ro, p2⟩ := zq64
  refine ?_
  refine ⟨ρ2, σd, hd2, rs2, ?_⟩
  refine (PostS.outE p2).imp fun vi H3 zq65 => ?_
  obtain ⟨ρ3, di, hd3, e3, rs3, ri, p3⟩ := zq65
  refine ?_
  have rv3 := (rv.mono (rs1.hp.kp e2)).mono (rs2.hp.kp e3)
  have ro3 := ro.mono (rs2.hp.kp e3)
  cases dO with
  | ref n =>
    cases di with
    | int j =>
      simp only at p3
      cases c : hd3[n]? with
      | none => rw [c] at p3; exact p3.elim
      | some cell =>
        rw [c] at p3
        cases cell with
        | dct l => exact p3.elim
        | lst l =>
          simp only at p3
          cases c2 : ixN l.length j with
          | none => rw [c2] at p3; exact p3.elim
          | some k =>
            rw [c2] at p3
            simp only [RD] at ro3 ri
            obtain ⟨a, ha, rfl⟩ := ro3
            obtain ⟨vs, hv, rvs⟩ := rs3.hp.cel n _ a c ha
            refine ⟨a, vs, j, k, rfl, ri, hv, by rw [← rvs.length, ← ixN_eq]; exact c2, ?_⟩
            have hn : n < hd3.length := (List.getElem?_eq_some_iff.mp c).1
            have rh := rs3.hp.write ha hn (RDs.set rv3 k rvs)
            have ex : Ext ρ3 H3 ρ3 (upd H3 a (.lst (vs.set k v))) := Ext.write (List.mem_of_getElem? ha)
            exact p3 σ _ ρ3 ex (rs3.ext ex rh)
    | _ => exact p3.elim
  | _ => exact p3.elim
end
section
variable (K : PySem.W.Frag)
structure Walk (ρ0 : List Addr) (H0 : Hp) (J : It) (l : List D) (g : Option Nat) : Prop where
  go : ∀ ρ H hd (i : Nat) d, Ext ρ0 H0 ρ H → RH K ρ H hd → held g l hd → l[i]? = some d → J.go i H ∧ ∀ x H', J.yld i H x H' → Same H H' ∧ RD K ρ H' d x
  stop : ∀ ρ H hd, Ext ρ0 H0 ρ H → RH K ρ H hd → held g l hd → J.stop l.length H
  sz : l.length ≤ sizeLine
noncomputable def PostI (ρ : List Addr) (H : Hp) (σd : Sd) (σ : St) (r : Res (List D × Option Nat)) (R : It → Hp → Prop) : Prop := match r with
  | .ok p hd' => ∀ J H' ρ', Ext ρ H ρ' H' → RS K ρ' H' σd hd' σ → Walk K ρ' H' J p.1 p.2 → R J H'
  | _ => False
noncomputable def liftI (f : IF) : TI := fun σ H R => ∃ ρ σd hd, RS K ρ H σd hd σ ∧ PostI K ρ H σd σ (f σd hd) R
end
noncomputable def MI (X : Cx) (tg e : Expr) (f : IF) : Prop := PI X tg e (liftI X.K f)
section
variable {X : Cx} {pos : Pos} {tg : Expr}
theorem PI.imp {e : Expr} {t u : TI} (h : PI X tg e t) (i : ∀ σ H R, u σ H R → t σ H R) : PI X tg e u := fun pins s σ H R I q => h pins s σ H R I (i σ H R q)
theorem ms_for {iter : Expr} {body : List Stmt} {f : IF} {g : GF} {b : SF} (hp : PassesOwn (model X.prog X.w) X.A X.env X.xe) (hc : X.calm = true) (hi : MI X tg iter f) (hg : MG X tg g) (hb : MSs X body b)
    (hs : ∀ x, foldedSetIterable iter X.env x = pure x := by intro _; rfl) : MS X (.For tg iter body [] pos) (sFor f g b) := by
  refine PS.imp (ps_for hp hc hi hg hb hs) fun En σ H zq66 => ?_
  obtain ⟨ρ, σd, hd, rs, p⟩ := zq66
  refine ⟨ρ, σd, hd, rs, ?_⟩
  unfold sFor at p
  cases e : f σd hd with
  | exc x h' => rw [e] at p; exact p
  | bad => rw [e] at p; exact p
  | ok q hd1 =>
    rw [e] at p
    obtain ⟨l, gd⟩ := q
    intro J H1 ρ1 ex1 rs1 wk
    simp only at p wk
    refine ⟨fun i m σ' H' => ∃ ρ' σd' hd', Ext ρ1 H1 ρ' H' ∧ RS X.K ρ' H' σd' hd' σ' ∧ i ≤ l.length ∧ m = l.length - i ∧ PostS X.K ρ' H' (forL gd l g b (l.drop i) σd' hd') En,
      ⟨l.length, ρ1, σd, hd1, Ext.refl, rs1, Nat.zero_le _, by simp, by simpa using PostS.ext ex1 p⟩, ?_⟩
    rintro i m σ' H' ⟨ρ', σd', hd', ex, rs', hil, rfl, pp⟩
    by_cases hlt : i < l.length
    · have hdi : l[i]? = some l[i] := by simp [hlt]
      rw [List.drop_eq_getElem_cons hlt] at pp
      unfold forL at pp
      by_cases hh : held gd l hd'
      · rw [if_pos hh] at pp
        obtain ⟨go, yl⟩ := wk.go ρ' H' hd' i _ ex rs'.hp hh hdi
        refine .inr ⟨go, fun σ2 H2 => ∃ ρ2 σd2 hd2, Ext ρ1 H1 ρ2 H2 ∧ RS X.K ρ2 H2 σd2 hd2 σ2 ∧ PostS X.K ρ2 H2 (forL gd l g b (l.drop (i + 1)) σd2 hd2) En,
          fun σ2 H2 ⟨ρ2, σd2, hd2, a1, a2, a3⟩ => ⟨l.length - (i + 1), by omega, ρ2, σd2, hd2, a1, a2, hlt, rfl, a3⟩, fun x H2 y => ?_⟩
        obtain ⟨sm, rx⟩ := yl x H2 y
        cases c : g l[i] σd' with
        | none => rw [c] at pp; exact pp.elim
        | some σd2 =>
          rw [c] at pp
          simp only at pp
          refine ⟨ρ', σd', hd', l[i], σd2, rs'.same sm, rx, c, fun σ2 rs2 => ⟨ρ', σd2, hd', rs2, ?_⟩⟩
          have e12 : Ext ρ' H' ρ' H2 := Ext.same sm
          cases c2 : b σd2 hd' with
          | nx σ3 h3 => rw [c2] at pp; exact fun σ4 H4 ρ4 ex4 rs4 => ⟨ρ4, σ3, h3, ex.trans (e12.trans ex4), rs4, PostS.ext (e12.trans ex4) pp⟩
          | ct σ3 h3 => rw [c2] at pp; exact fun σ4 H4 ρ4 ex4 rs4 => ⟨ρ4, σ3, h3, ex.trans (e12.trans ex4), rs4, PostS.ext (e12.trans ex4) pp⟩
          | bk σ3 h3 => rw [c2] at pp; exact fun σ4 H4 ρ4 ex4 rs4 => pp σ4 H4 ρ4 (e12.trans ex4) rs4
          | rt d h3 => rw [c2] at pp; exact fun v H4 ρ4 ex4 rs4 rv => pp v H4 ρ4 (e12.trans ex4) rs4 rv
          | exc x σ3 h3 => rw [c2] at pp; exact pp
          | bad => rw [c2] at pp; exact pp
      · rw [if_neg hh] at pp; exact pp.elim
    · have e0 : i = l.length := by omega
      subst e0
      rw [List.drop_length] at pp
      unfold forL at pp
      by_cases hh : held gd l hd'
      · rw [if_pos hh] at pp
        exact .inl ⟨wk.stop ρ' H' hd' ex rs'.hp hh, pp σ' H' ρ' Ext.refl rs'⟩
      · rw [if_neg hh] at pp; exact pp.elim
theorem ms_while {c : Expr} {body : List Stmt} {t : TF} {b : SF} (hp : PassesOwn (model X.prog X.w) X.A X.env X.xe) (hc : MT X c t) (hb : MSs X body b) : MS X (.While c body [] pos) (sWhile t b) := by
  refine PS.imp (ps_while hp hc hb) fun En σ H zq67 => ?_
  obtain ⟨ρ, σd, hd, rs, p⟩ := zq67
  refine ?_
  unfold sWhile at p
  refine ⟨fun m σ' H' => ∃ ρ' σd' hd', RS X.K ρ' H' σd' hd' σ' ∧ PostS X.K ρ' H' (whileN t b m σd' hd') En, ⟨fuel t b σd hd, ρ, σd, hd, rs, p⟩, ?_⟩
  rintro m σ' H' ⟨ρ', σd', hd', rs', pp⟩
  cases m with
  | zero => exact pp.elim
  | succ m =>
    unfold whileN at pp
    refine ⟨ρ', σd', hd', rs', ?_⟩
    cases e : t σd' hd' with
    | exc x h1 => rw [e] at pp; exact pp
    | bad => rw [e] at pp; exact pp
    | ok c h1 =>
      rw [e] at pp
      intro b' H2 ρ2 ex2 rs2 q
      cases q
      cases c with
      | false => simp only [Bool.false_eq_true, if_false] at pp ⊢; exact pp σ' H2 ρ2 ex2 rs2
      | true =>
        simp only [if_true] at pp ⊢
        refine ⟨fun σ3 H3 => ∃ ρ3 σd3 hd3, RS X.K ρ3 H3 σd3 hd3 σ3 ∧ PostS X.K ρ3 H3 (whileN t b m σd3 hd3) En, fun σ3 H3 q => ⟨m, Nat.lt_succ_self _, q⟩, ρ2, σd', h1, rs2, ?_⟩
        cases c2 : b σd' h1 with
        | nx σ3 h3 => rw [c2] at pp; exact fun σ4 H4 ρ4 ex4 rs4 => ⟨ρ4, σ3, h3, rs4, PostS.ext (ex2.trans ex4) pp⟩
        | ct σ3 h3 => rw [c2] at pp; exact fun σ4 H4 ρ4 ex4 rs4 => ⟨ρ4, σ3, h3, rs4, PostS.ext (ex2.trans ex4) pp⟩
        | bk σ3 h3 => rw [c2] at pp; exact fun σ4 H4 ρ4 ex4 rs4 => pp σ4 H4 ρ4 (ex2.trans ex4) rs4
        | rt d h3 => rw [c2] at pp; exact fun v H4 ρ4 ex4 rs4 rv => pp v H4 ρ4 (ex2.trans ex4) rs4 rv
        | exc x σ3 h3 => rw [c2] at pp; exact pp
        | bad => rw [c2] at pp; exact pp
theorem walk_tup {K : PySem.W.Frag} {ρ : List Addr} {H : Hp} {hd : Hd} {q : Addr} {l : List D} {vs : List V} (r : RH K ρ H hd) (hq : H q = some (.tup vs)) (rv : RDs K ρ H l vs) (hz : vs.length ≤ sizeLine) : Walk K ρ H (Itt K q) l none where
  go := fun ρ' H' hd' i d ex rh _ hi => by
    have k := r.kp ex
    obtain ⟨v, hv, rd⟩ := (rv.mono k).get hi
    have sq : SqT K H' q vs := SqT.of (k.tup q vs hq)
    refine ⟨⟨vs, v, sq, hv⟩, fun x H2 y => ?_⟩
    obtain ⟨rfl, y⟩ := y
    have := y vs sq
    rw [hv] at this
    cases this
    exact ⟨Same.refl _, rd⟩
  stop := fun ρ' H' hd' ex rh _ => ⟨vs, SqT.of ((r.kp ex).tup q vs hq), by rw [rv.length]; exact Nat.le_refl _⟩
  sz := by rw [rv.length]; exact hz
theorem walk_lit {K : PySem.W.Frag} {ρ : List Addr} {H : Hp} {hd : Hd} {q : Addr} {l : List D} {vs : List V} (r : RH K ρ H hd) (hq : LitAt K H q vs) (rv : RDs K ρ H l vs) (hz : vs.length ≤ sizeLine) : Walk K ρ H (Itl K q) l none where
  go := fun ρ' H' hd' i d ex rh _ hi => by
    have k := r.kp ex
    obtain ⟨v, hv, rd⟩ := (rv.mono k).get hi
    have sq : SqL K H' q vs := (hq.mono k).sq
    refine ⟨⟨vs, v, sq, hv⟩, fun x H2 y => ?_⟩
    obtain ⟨rfl, y⟩ := y
    have := y vs sq
    rw [hv] at this
    cases this
    exact ⟨Same.refl _, rd⟩
  stop := fun ρ' H' hd' ex rh _ => ⟨vs, (hq.mono (r.kp ex)).sq, by rw [rv.length]; exact Nat.le_refl _⟩
  sz := by rw [rv.length]; exact hz
theorem walk_ref {K : PySem.W.Frag} {ρ : List Addr} {H : Hp} {n : Nat} {q : Addr} {l : List D} (hq : ρ[n]? = some q) (hz : l.length ≤ sizeLine) : Walk K ρ H (Itl K q) l (some n) where
  sz := hz
  go := fun ρ' H' hd' i d ex rh hl hi => by
    obtain ⟨vs, e, rv⟩ := rh.cel n _ q hl (ex.get hq)
    obtain ⟨v, hv, rd⟩ := rv.get hi
    have sq : SqL K H' q vs := SqL.of e
    refine ⟨⟨vs, v, sq, hv⟩, fun x H2 y => ?_⟩
    obtain ⟨rfl, y⟩ := y
    have := y vs sq
    rw [hv] at this
    cases this
    exact ⟨Same.refl _, rd⟩
  stop := fun ρ' H' hd' ex rh hl => by
    obtain ⟨vs, e, rv⟩ := rh.cel n _ q hl (ex.get hq)
    exact ⟨vs, SqL.of e, by rw [rv.length]; exact Nat.le_refl _⟩
theorem pi_seq {l : Expr} {tl : TE} (hl : PE X l tl) : PI X tg l (fun σ H R => tl σ H fun x H1 => (∃ a xs, x = .ref a ∧ SqL X.K H1 a xs ∧ (xs.length ≤ sizeLine → R (Itl X.K a) H1)) ∨ ∃ a xs, x = .ref a ∧ SqT X.K H1 a xs ∧ (xs.length ≤ sizeLine → R (Itt X.K a) H1)) := by
  intro pins s σ H R I h
  refine thn (hl pins s σ H _ I h) fun v s1 zq68 => ?_
  obtain ⟨x, H1, I1, r1, q1⟩ := zq68
  refine ?_
  rcases q1 with ⟨a, xs, e, hq, q⟩ | ⟨a, xs, e, hq, q⟩
  · subst e
    cases r1
    obtain ⟨its, rv, p, hz⟩ := I1.list hq
    refine wpAny_pyIter_list p.isList ?_
    refine ⟨s1.heap.objs.size, [s1.heap.objs.size], _, _, H1, rfl, I1.kept (t' := s1.toks) fun b o e => Heap.get?_push_of_some _ e, turn_list a _, ⟨_, Heap.get?_push_size _ rfl, rfl, rfl⟩, fun b hb => ?_, q hz⟩
    have e : b = s1.heap.objs.size := by simpa using hb
    subst e
    exact I1.fpOk (Nat.le_refl _) (I1.hok.fresh (Nat.le_refl _))
  · subst e
    cases r1
    obtain ⟨its, rv, p, hz⟩ := I1.tuple hq
    refine wpAny_pyIter_tuple (show s1.heap.IsTuple a its.toArray from p) ?_
    refine ⟨s1.heap.objs.size, [s1.heap.objs.size], _, _, H1, rfl, I1.kept (t' := s1.toks) fun b o e => Heap.get?_push_of_some _ e, turn_tuple a _, ⟨_, Heap.get?_push_size _ rfl, rfl, rfl⟩, fun b hb => ?_, q hz⟩
    have e : b = s1.heap.objs.size := by simpa using hb
    subst e
    exact I1.fpOk (Nat.le_refl _) (I1.hok.fresh (Nat.le_refl _))
theorem mi_seq {e : Expr} {f : EF} (h : ME X e f) : MI X tg e (iSeq f) := by
  refine PI.imp (pi_seq h) fun σ H R zq69 => ?_
  obtain ⟨ρ, σd, hd, rs, p⟩ := zq69
  refine ⟨ρ, σd, hd, rs, ?_⟩
  unfold iSeq at p
  cases e : f σd hd with
  | exc x h1 => rw [e] at p; exact p
  | bad => rw [e] at p; exact p
  | ok d hd1 =>
    rw [e] at p
    simp only [bind_ok] at p
    intro v H1 ρ1 ex1 rs1 rv
    cases d <;> try exact p.elim
    · rename_i l
      simp only [rD, RD] at rv
      obtain ⟨q, vs, rfl, hq, rvs⟩ := rv
      exact .inr ⟨q, vs, rfl, SqT.of hq, fun hz => p _ H1 ρ1 ex1 rs1 (walk_tup rs1.hp hq rvs hz)⟩
    · rename_i n
      simp only [rD, RD] at rv
      obtain ⟨a, ha, rfl⟩ := rv
      cases c : hd1[n]? with
      | none => simp only [c] at p; exact p.elim
      | some cell =>
        cases cell with
        | dct l => simp only [c] at p; exact p.elim
        | lst l =>
          simp only [c] at p
          obtain ⟨vs, hv, rvs⟩ := rs1.hp.cel n _ a c ha
          exact .inl ⟨a, vs, rfl, SqL.of hv, fun hz => p _ H1 ρ1 ex1 rs1 (walk_ref ha (by rw [rvs.length]; exact hz))⟩
    · rename_i l
      simp only [rD, RD] at rv
      obtain ⟨q, vs, rfl, hq, rvs⟩ := rv
      exact .inl ⟨q, vs, rfl, hq.sq, fun hz => p _ H1 ρ1 ex1 rs1 (walk_lit rs1.hp hq rvs hz)⟩
theorem mi_new {e : Expr} {la : LF} (h : MF X e la) : MI X tg e (iNew la) := by
  refine PI.imp (pi_seq h) fun σ H R zq70 => ?_
  obtain ⟨ρ, σd, hd, rs, p⟩ := zq70
  refine ⟨ρ, σd, hd, rs, ?_⟩
  unfold iNew at p
  cases e : la σd hd with
  | exc x h1 => rw [e] at p; exact p
  | bad => rw [e] at p; exact p
  | ok l hd1 =>
    rw [e] at p
    simp only [bind_ok] at p
    intro q vs H1 ρ1 ex1 rs1 hq0 hq hn rvs
    refine .inl ⟨q, vs, rfl, SqL.of hq, fun hz => p _ H1 ρ1 ex1 rs1 ⟨fun ρ' H' hd' i d ex rh _ hi => ?_, fun ρ' H' hd' ex rh _ => ⟨vs, SqL.of (ex.frame q _ hq hn), by rw [rvs.length]; exact Nat.le_refl _⟩, by rw [rvs.length]; exact hz⟩⟩
    obtain ⟨v, hv, rd⟩ := (rvs.mono (rs1.hp.kp ex)).get hi
    have sq : SqL X.K H' q vs := SqL.of (ex.frame q _ hq hn)
    refine ⟨⟨vs, v, sq, hv⟩, fun x H2 y => ?_⟩
    obtain ⟨rfl, y⟩ := y
    have := y vs sq
    rw [hv] at this
    cases this
    exact ⟨Same.refl _, rd⟩
theorem walk_range {K : PySem.W.Frag} {ρ : List Addr} {H : Hp} (lo : Int) (n : Nat) (hz : n ≤ 2000000) : Walk K ρ H (Itr lo n) ((List.range n).map fun k : Nat => .int (lo + k)) none where
  go := fun ρ' H' hd' i d ex rh _ hi => by
    have hin : i < n := by
      have := (List.getElem?_eq_some_iff.mp hi).1
      simpa using this
    refine ⟨hin, fun x H2 y => ?_⟩
    obtain ⟨rfl, rfl⟩ := y
    have e : d = .int (lo + i) := by simpa [hin] using hi.symm
    subst e
    exact ⟨Same.refl _, by simp only [RD]⟩
  stop := fun ρ' H' hd' ex rh _ => by
    show n ≤ _
    simp
  sz := by
    have : (2000000 : Nat) ≤ sizeLine := by rw [sizeLine_eq]; decide
    simp; omega
theorem mi_range {a : Expr} {f : EF} {p : Pos} (hg : Gl X "range") (hm : X.mg "range" = none) (ha : ME X a f) (hs : starEach [a] X.env = [(false, eval a X.env)] := by rfl) : MI X tg (.Call (.Name "range" p) [a] [] pos) (iRange f) := by
  refine PI.imp (pi_range1 hg hm (pa_cons ha pa_nil hs) hs) fun σ H R zq71 => ?_
  obtain ⟨ρ, σd, hd, rs, pp⟩ := zq71
  refine ⟨ρ, σd, hd, rs, ?_⟩
  unfold iRange at pp
  cases e : f σd hd with
  | exc x h1 => rw [e] at pp; exact pp
  | bad => rw [e] at pp; exact pp
  | ok d hd1 =>
    rw [e] at pp
    simp only [bind_ok] at pp
    intro v H1 ρ1 ex1 rs1 rv
    cases d <;> try exact pp.elim
    rename_i n
    simp only at pp
    simp only [rD, RD] at rv
    subst rv
    split at pp
    · rename_i hb
      refine ⟨n, rfl, by omega, by omega, pp _ H1 ρ1 ex1 rs1 ?_⟩
      have := walk_range (K := X.K) (ρ := ρ1) (H := H1) 0 n.toNat (by omega)
      simpa using this
    · exact pp.elim
end
end Fm
set_option linter.all false
namespace Fm
noncomputable section
open Classical
noncomputable def compG (G : Hd → Prop) (tg : GF) (cs : List TF) (e : EF) : List D → Sd → Hd → Res (List D)
  | [], _, h => if G h then .ok [] h else .bad
  | x :: xs, σ, h => if G h then match tg x σ with
      | some σ => (tests cs σ h).bind fun b h => if b then (e σ h).bind fun d h => (compG G tg cs e xs σ h).bind fun ds h => .ok (d :: ds) h
        else compG G tg cs e xs σ h
      | none => .bad
    else .bad
end
theorem compL_G {g : Option Nat} {all : List D} {tg : GF} {cs : List TF} {e : EF} : ∀ (xs : List D) (σ : Sd) (h : Hd), compL g all tg cs e xs σ h = compG (held g all) tg cs e xs σ h
  | [], _, h => by unfold compL compG; rfl
  | x :: xs, σ, h => by
    unfold compL compG
    by_cases hh : held g all h
    · rw [if_pos hh, if_pos hh]
      cases tg x σ with
      | none => rfl
      | some σ' => simp only [compL_G xs]
    · rw [if_neg hh, if_neg hh]
end Fm
set_option Elab.async false
set_option linter.all false
set_option maxRecDepth 100000
namespace Fm
open PySem PySem.Spec L2
section
variable {prog : Program} {w : World} {A : Around} {R : Result → Shared → Prop} {s : Shared}
theorem compLoop_any {elt target iter : Expr} {ifs : List Expr} {scope : Scope} {pos : Pos} {it acc : Value} {env : Env} {E : Value → Shared → Prop} (hE : ∀ e s, ¬ E e s) (I : Nat → Shared → Prop)
    (turn : ∀ n s, I n s → wpAny (model prog w) A (pyNext it) (fun r s₁ => match r with
      | none => R (.ok .next) s₁
      | some v => wpAny (model prog w) A (letOwnedTupleGo target it v) (fun _ s₁ => wpAny (model prog w) A (assign target env v) (fun _ s₂ =>
          wpAny (model prog w) A (forIn ifs true fun c r => if r = true then do let ok ← isTrue c env (eval c env); pure (ForInStep.yield ok) else pure (ForInStep.yield r)) (fun ok s₃ =>
            if ok = true then wpAny (model prog w) A (eval elt env) (fun x s₄ =>
              wpAny (model prog w) A (call (.builtin "list.append") [acc, x]) (fun _ s₅ => ∃ m, m < n ∧ I m s₅) E s₄) E s₃
            else ∃ m, m < n ∧ I m s₃) E s₂) E s₁) E s₁) E s)
    (n : Nat) (h : I n s) :
    codeAny (model prog w) A (.compLoop (.ListComp elt [⟨target, iter, ifs, 0⟩] scope pos) 0 it acc env) R s := by
  refine codeAny_loop rfl I (fun n s hI => ?_) n h
  show wpAny _ A ((compTurn (.ListComp elt [⟨target, iter, ifs, 0⟩] scope pos) 0 it acc env).onRaise (fun x => do noteFrame x env; theTreesLotGoes x)) _ _ s
  refine wpAny_noted ?_
  rw [compTurn_list]
  have no : ∀ {α : Type} {t : Sem α} {Q Q' : α → Shared → Prop} {E' : Value → Shared → Prop} {s : Shared}, wpAny (model prog w) A t Q E s → (∀ a s, Q a s → Q' a s) → wpAny (model prog w) A t Q' E' s := fun h hq => wpAny_mono h hq fun e s z => (hE e s z).elim
  refine wpAny_bind (wpAny_standAt (wpAny_bind (no (turn n s hI) fun r s₁ h₁ => ?_)))
  cases r with
  | none => exact wpAny_pure h₁
  | some v =>
    refine wpAny_bind (no h₁ fun _ s₁ h₁ => ?_)
    refine wpAny_bind (no h₁ fun _ s₂ h₂ => wpAny_bind (no h₂ fun ok s₃ h₃ => ?_))
    cases ok with
    | false => exact wpAny_pure ⟨rfl, h₃⟩
    | true =>
      exact wpAny_bind (wpAny_bind (no h₃ fun x s₄ h₄ => wpAny_bind (no h₄ fun _ s₅ h₅ => wpAny_pure (wpAny_pure ⟨rfl, h₅⟩))))
end
theorem closure_go {env : Env} : ∀ (l : List (Str × NameKind)) (cs : List (Str × Addr)), (∀ y ∈ l, y.2 = .free → ∃ c, env.cells.lookup y.1 = some c) →
    ∃ cl, (forIn l cs fun (x : Str × NameKind) (r : List (Str × Addr)) => if (x.2 == .free) = true then do let a ← cellOf env x.1; pure (ForInStep.yield ((x.1, a) :: r)) else pure (ForInStep.yield r)) = (pure cl : Sem _) ∧
      (∀ x c, cl.lookup x = some c → cs.lookup x = some c ∨ env.cells.lookup x = some c) ∧ (∀ y ∈ l, y.2 = .free → ∃ c, cl.lookup y.1 = some c) ∧ ∀ x c, cs.lookup x = some c → ∃ c', cl.lookup x = some c'
  | [], cs, _ => ⟨cs, by simp, fun x c h => .inl h, fun y hy => by simp at hy, fun x c h => ⟨c, h⟩⟩
  | (n, k) :: l, cs, hf => by
    by_cases hk : k = .free
    · subst hk
      obtain ⟨c, hc⟩ := hf (n, .free) (by simp) rfl
      obtain ⟨cl, h1, h2, h3, h4⟩ := closure_go l ((n, c) :: cs) fun y hy => hf y (by simp [hy])
      refine ⟨cl, ?_, fun x d h => ?_, fun y hy hyf => ?_, fun x d h => ?_⟩
      · rw [List.forIn_cons]
        simp only [beq_self_eq_true, if_true, cellOf, hc]
        exact h1
      · rcases h2 x d h with q | q
        · rw [List.lookup_cons] at q
          cases e : x == n with
          | true =>
            rw [e] at q
            have : x = n := by simpa using e
            subst this
            cases q
            exact .inr hc
          | false => rw [e] at q; exact .inl q
        · exact .inr q
      · rcases List.mem_cons.mp hy with e | e
        · subst e
          exact h4 n c (by simp [List.lookup_cons])
        · exact h3 y e hyf
      · by_cases e : x = n
        · subst e
          exact h4 x c (by simp [List.lookup_cons])
        · exact h4 x d (by rw [List.lookup_cons, beq_eq_false_iff_ne.mpr e]; exact h)
    · obtain ⟨cl, h1, h2, h3, h4⟩ := closure_go l cs fun y hy => hf y (by simp [hy])
      refine ⟨cl, ?_, h2, fun y hy hyf => ?_, h4⟩
      · rw [List.forIn_cons]
        have : (k == NameKind.free) = false := by simpa using hk
        simp only [this, Bool.false_eq_true, if_false]
        exact h1
      · rcases List.mem_cons.mp hy with e | e
        · subst e; exact absurd hyf hk
        · exact h3 y e hyf
theorem closure_of {scope : Scope} {env : Env} (hf : ∀ y ∈ scope.names, y.2 = .free → ∃ c, env.cells.lookup y.1 = some c) :
    ∃ cl, closureFor scope env = pure cl ∧ (∀ x c, cl.lookup x = some c → env.cells.lookup x = some c) ∧ ∀ y ∈ scope.names, y.2 = .free → ∃ c, cl.lookup y.1 = some c := by
  obtain ⟨cl, h1, h2, h3, _⟩ := closure_go scope.names [] hf
  refine ⟨cl, ?_, fun x c h => (h2 x c h).elim (fun z => by simp at z) id, h3⟩
  unfold closureFor
  have e : (forIn scope.names ([] : List (Str × Addr)) fun (x : Str × NameKind) (r : List (Str × Addr)) => if (x.2 == .free) = true then do let a ← cellOf env x.1; pure (ForInStep.yield ((x.1, a) :: r)) else pure (ForInStep.yield r)) = (pure cl : Sem _) := h1
  exact (congrArg (fun t : Sem (List (Str × Addr)) => t >>= fun r => pure r) e).trans rfl
noncomputable def cxC (X : Cx) (N : List Str) (scope : Scope) (cl : List (Str × Addr)) (C : Addr) (s : Shared) (H : Hp) (ex : List Addr) : Cx where
  prog := X.prog
  w := X.w
  K := X.K
  mg := X.mg
  base := X.base
  A := X.A
  N := N
  s₀ := s
  H₀ := H
  env := compEnvC scope cl C X.env
  outer := X.stack
  stack := X.stack
  ex := ex
  fn := fun _ => false
  calm := X.calm
  pn := []
  xe := fun _ _ => False
noncomputable def MTs (X : Cx) (ifs : List Expr) (cs : List TF) : Prop :=
  ∀ (pins : List (Addr × Obj)) (s : Shared) (σ : St) (H : Hp) (Q : Bool → Hp → Prop), Inv X pins σ H s → lift X.K rB (tests cs) σ H Q →
    wpAny (model X.prog X.w) X.A (forIn ifs true fun c r => if r = true then do let ok ← isTrue c X.env (eval c X.env); pure (ForInStep.yield ok) else pure (ForInStep.yield r)) (TP X pins σ Q) X.xe s
theorem mts_nil {X : Cx} : MTs X [] [] := fun pins s σ H Q I ⟨ρ, σd, hd, rs, p⟩ => wpAny_tests_nil ⟨H, I, p.here rs rfl⟩
theorem mts_one {X : Cx} {c : Expr} {t : TF} (h : MT X c t) : MTs X [c] [t] := fun pins s σ H Q I ⟨ρ, σd, hd, rs, p⟩ => wpAny_tests_one (h pins s σ H Q I ⟨ρ, σd, hd, rs, by
  have e : tests [t] σd hd = t σd hd := by
    simp only [tests]
    cases c : t σd hd with
    | ok b h' => cases b <;> simp
    | exc x h' => rfl
    | bad => rfl
  rw [e] at p
  exact p⟩)
theorem lookup_relabel {env : Env} {x : Str} : ∀ {names : List (Str × NameKind)} {k : NameKind}, (names.map fun (n, k) => if (k == NameKind.free && env.scope.kind == .function && env.kindOf n == some .cell) then (n, NameKind.cell) else (n, k)).lookup x = some k →
    ∃ k0, names.lookup x = some k0 ∧ (k = k0 ∨ (k0 = .free ∧ k = .cell))
  | [], _, h => by simp at h
  | (n, k') :: r, k, h => by
    have ih := @lookup_relabel env x r k
    have h' : List.lookup x ((if (k' == NameKind.free && env.scope.kind == .function && env.kindOf n == some .cell) = true then (n, NameKind.cell) else (n, k')) :: _) = some k := h
    cases hx : x == n with
    | true =>
      refine ⟨k', by simp [List.lookup_cons, hx], ?_⟩
      by_cases hc : (k' == NameKind.free && env.scope.kind == .function && env.kindOf n == some .cell) = true
      · rw [if_pos hc] at h'
        simp only [List.lookup_cons, hx, Option.some.injEq] at h'
        simp only [Bool.and_eq_true, beq_iff_eq] at hc
        exact .inr ⟨hc.1.1, h'.symm⟩
      · rw [if_neg hc] at h'
        simp only [List.lookup_cons, hx, Option.some.injEq] at h'
        exact .inl h'.symm
    | false =>
      have : List.lookup x ((n, k') :: r) = List.lookup x r := by simp [List.lookup_cons, hx]
      rw [this]
      refine ih ?_
      by_cases hc : (k' == NameKind.free && env.scope.kind == .function && env.kindOf n == some .cell) = true
      · rw [if_pos hc] at h'; simpa only [List.lookup_cons, hx] using h'
      · rw [if_neg hc] at h'; simpa only [List.lookup_cons, hx] using h'
theorem mem_of_lookupS {x : Str} {k : NameKind} : ∀ {l : List (Str × NameKind)}, l.lookup x = some k → (x, k) ∈ l
  | [], h => by simp at h
  | (n, k') :: r, h => by
    rw [List.lookup_cons] at h
    cases e : x == n with
    | true =>
      rw [e] at h
      have : x = n := by simpa using e
      subst this
      cases h
      exact List.mem_cons_self
    | false => rw [e] at h; exact List.mem_cons_of_mem _ (mem_of_lookupS h)
structure CScope (X : Cx) (scope : Scope) (own capn : List Str) (caps : List Nat) : Prop where
  kind : scope.kind = .function
  cell : ∀ y ∈ scope.names, y.2 ≠ .cell
  names : ∀ y ∈ scope.names, y.2 = .local → scope.names.lookup y.1 = some .local
  free : ∀ y ∈ scope.names, y.2 = .free → X.env.kindOf y.1 = some .cell ∨ X.env.kindOf y.1 = some .free
  cap : ∀ (j : Nat) x, capn[j]? = some x → ∃ i, caps[j]? = some i ∧ X.N[i]? = some x ∧ scope.names.lookup x = some .free
  len : capn.length = caps.length
section
variable {X : Cx} {pins : List (Addr × Obj)} {σ : St} {H1 : Hp} {s2 : Shared} {scope : Scope} {own capn : List Str} {caps : List Nat} {cl : List (Str × Addr)} {C : Addr} {ex : List Addr}
noncomputable def stC (own : List Str) (caps : List Nat) (σ : St) : St := List.replicate own.length none ++ caps.map fun i => (σ[i]?).join
theorem cxC_ok (I : Inv X pins σ H1 s2) (S : CScope X scope own capn caps) (hC : s2.heap.objs.size ≤ C) (hcl1 : ∀ x c, cl.lookup x = some c → X.env.cells.lookup x = some c) (hcl2 : ∀ y ∈ scope.names, y.2 = .free → ∃ c, cl.lookup y.1 = some c)
    (hf : ∀ b ∈ ex, FpOk X pins H1 b) (hlt : ∀ b ∈ ex, b < s2.heap.objs.size) : (cxC X (own ++ capn) scope cl C s2 H1 ex).Ok where
  mod := I.ok.mod
  kind := S.kind
  glob := I.ok.glob
  blt := I.ok.blt
  above := hC
  inj := fun x y c h1 h2 => I.ok.inj x y c (hcl1 x c h1) (hcl1 y c h2)
  has := fun x hx => by
    have key : ∀ k, (relabel scope X.env).names.lookup x = some k → k = .cell ∨ k = .free → ∃ c, cl.lookup x = some c := fun k h hk => by
      obtain ⟨k0, h0, q⟩ := lookup_relabel h
      have hm := mem_of_lookupS h0
      have : k0 = .free := by
        rcases q with q | q
        · subst q
          rcases hk with e | e
          · exact absurd e (S.cell _ hm)
          · exact e
        · exact q.1
      exact hcl2 _ hm this
    rcases hx with h | h
    · exact key _ h (.inl rfl)
    · exact key _ h (.inr rfl)
  cab := fun x c h => by cases h
  hd := I.ok.hd
  frames := I.ok.frames
  stk := .inl rfl
  exf := fun b hb => by
    obtain ⟨f0, f1, f2, f3, f4, f5⟩ := hf b hb
    exact ⟨fun z => absurd (Nat.lt_of_lt_of_le (hlt b hb) hC) (by rw [z]; exact Nat.lt_irrefl _), fun x c e => f4 x c (hcl1 x c e)⟩
  bs := I.bs
  bsz := Nat.le_trans I.ok.bsz I.sz
  noex := fun b o e hb => by
    obtain ⟨f0, f1, f2, f3, f4, f5⟩ := hf b hb
    rcases f3 with z | z
    · exact I.ok.noex b o e z
    · exact absurd (Nat.lt_of_lt_of_le (Heap.lt_size (I.ok.bs b o e).1) z) (Nat.lt_irrefl _)
  exfs := fun b hb hs => by
    obtain ⟨f0, f1, f2, f3, f4, f5⟩ := hf b hb
    rcases List.mem_cons.mp (I.stkSub b hs) with z | z
    · exact f1 z
    · exact f2 z
  funs := I.stack
  frf := I.stkFree
theorem relabel_free {env : Env} {x : Str} : ∀ {names : List (Str × NameKind)}, names.lookup x = some .free →
    (names.map fun (n, k) => if (k == NameKind.free && env.scope.kind == .function && env.kindOf n == some .cell) then (n, NameKind.cell) else (n, k)).lookup x = some .cell ∨
    (names.map fun (n, k) => if (k == NameKind.free && env.scope.kind == .function && env.kindOf n == some .cell) then (n, NameKind.cell) else (n, k)).lookup x = some .free
  | [], h => by simp at h
  | (n, k') :: r, h => by
    have ih := @relabel_free env x r
    show List.lookup x ((if (k' == NameKind.free && env.scope.kind == .function && env.kindOf n == some .cell) = true then (n, NameKind.cell) else (n, k')) :: _) = _ ∨ List.lookup x ((if (k' == NameKind.free && env.scope.kind == .function && env.kindOf n == some .cell) = true then (n, NameKind.cell) else (n, k')) :: _) = _
    cases hx : x == n with
    | true =>
      simp only [List.lookup_cons, hx, Option.some.injEq] at h
      subst h
      by_cases hc : (NameKind.free == NameKind.free && env.scope.kind == .function && env.kindOf n == some .cell) = true
      · rw [if_pos hc]; exact .inl (by simp only [List.lookup_cons, hx])
      · rw [if_neg hc]; exact .inr (by simp only [List.lookup_cons, hx])
    | false =>
      simp only [List.lookup_cons, hx] at h
      by_cases hc : (k' == NameKind.free && env.scope.kind == .function && env.kindOf n == some .cell) = true
      · rw [if_pos hc]; simp only [List.lookup_cons, hx]; exact ih h
      · rw [if_neg hc]; simp only [List.lookup_cons, hx]; exact ih h
theorem stC_get {i : Nat} {v : V} (h : (stC own caps σ)[i]? = some (some v)) : ∃ j k, i = own.length + j ∧ caps[j]? = some k ∧ σ[k]? = some (some v) := by
  unfold stC at h
  by_cases hi : i < own.length
  · rw [List.getElem?_append_left (by simpa using hi)] at h
    simp [hi] at h
  · rw [List.getElem?_append_right (by simpa using Nat.le_of_not_lt hi)] at h
    simp only [List.length_replicate, List.getElem?_map] at h
    cases c : caps[i - own.length]? with
    | none => rw [c] at h; cases h
    | some k =>
      rw [c] at h
      simp only [Option.map_some, Option.some.injEq] at h
      refine ⟨i - own.length, k, by omega, c, ?_⟩
      cases e : σ[k]? with
      | none => rw [e] at h; cases h
      | some o => rw [e] at h; simp only [Option.join_some] at h; rw [h]
theorem cxC_start (I : Inv X pins σ H1 s2) (S : CScope X scope own capn caps) (hC : s2.heap.objs.size < C) (hcl1 : ∀ x c, cl.lookup x = some c → X.env.cells.lookup x = some c) (hcl2 : ∀ y ∈ scope.names, y.2 = .free → ∃ c, cl.lookup y.1 = some c)
    (hf : ∀ b ∈ ex, FpOk X pins H1 b) (hlt : ∀ b ∈ ex, b < s2.heap.objs.size) {h1 : Heap} {m : Str → Option Value} {tk : Nat} (hn : h1.Ns C m) (hk : ∀ b o, s2.heap.get? b = some o → h1.get? b = some o)
    (hD : h1.get? s2.heap.objs.size = some { cls := .type "list", data := .seq #[] }) :
    Inv (cxC X (own ++ capn) scope cl C s2 H1 ex) [] (stC own caps σ) (upd H1 s2.heap.objs.size (.lst [])) { s2 with heap := h1, toks := tk } where
  ok := cxC_ok I S (Nat.le_of_lt hC) hcl1 hcl2 hf hlt
  os := rfl
  bare := I.bare
  base := Un.laid hk (Nat.le_refl _) (I.hok.fresh (Nat.le_refl _))
  loc := by
    refine ⟨m, hn, fun i x v e1 e2 e3 => ?_⟩
    obtain ⟨j, k, rfl, hj, hk'⟩ := stC_get e2
    have e1' : capn[j]? = some x := by
      have : (own ++ capn)[own.length + j]? = some x := e1
      rw [List.getElem?_append_right (by omega)] at this
      simpa using this
    obtain ⟨k2, q1, q2, q3⟩ := S.cap j x e1'
    rw [hj] at q1; cases q1
    have hm := mem_of_lookupS q3
    have kd := S.free _ hm rfl
    obtain ⟨m0, hn0, hl⟩ := I.loc
    obtain ⟨u, r, lk⟩ := hl k x v q2 hk' (.inr kd)
    refine ⟨u, r, .inr ⟨relabel_free q3, ?_⟩⟩
    rcases lk with ⟨z, _⟩ | ⟨_, c, hc, o, ho, hd⟩
    · rcases kd with e | e <;> (rw [z] at e; cases e)
    · obtain ⟨c', hc'⟩ := hcl2 _ hm rfl
      have := hcl1 _ _ hc'
      rw [hc] at this
      cases this
      exact ⟨c, hc', o, hk c o ho, hd⟩
  cell := fun x c e => by
    obtain ⟨v, o, ho, hd⟩ := I.cell x c (hcl1 x c e)
    exact ⟨v, o, hk c o ho, hd⟩
  free := by
    show upd H1 _ _ C = none
    rw [upd_ne (Nat.ne_of_gt hC)]
    exact I.hok.fresh (Nat.le_of_lt hC)
  freeC := fun x c e => by
    obtain ⟨v, o, ho, hd⟩ := I.cell x c (hcl1 x c e)
    rw [upd_ne (Nat.ne_of_lt (Heap.lt_size ho))]
    exact I.freeC x c (hcl1 x c e)
  pin := fun p hp => absurd (show p ∈ ([] : List (Addr × Obj)) from hp) (by simp)
  hok := I.hok.laid hk (Nat.le_refl _) ⟨Nat.zero_le _, [], 0, .nil, hD⟩
  len := by
    show (stC own caps σ).length = (own ++ capn).length
    simp [stC, S.len]
end
theorem RS.other {K : PySem.W.Frag} {ρ : List Addr} {H : Hp} {σd : Sd} {hd : Hd} {σ : St} {d : Addr} {ys zs : List V} (r : RS K ρ H σd hd σ) (h : H d = some (.lst ys)) (n : d ∉ ρ) : RS K ρ (upd H d (.lst zs)) σd hd σ ∧ Kp ρ H ρ (upd H d (.lst zs)) := by
  have k : Kp ρ H ρ (upd H d (.lst zs)) := ⟨fun _ _ h => h, fun a us e => by
    rw [upd_ne (fun z => by rw [z, h] at e; cases e)]; exact e, fun a o u e => by
    rw [upd_ne (fun z => by rw [z, h] at e; cases e)]; exact e⟩
  refine ⟨⟨⟨r.hp.len, r.hp.nd, fun m c a h1 h2 => (r.hp.cel m c a h1 h2).mono k (upd_ne fun z => n (by rw [← z]; exact List.mem_of_getElem? h2))⟩, r.st.mono k⟩, k⟩
theorem Ext.other {ρ ρ' : List Addr} {H H' : Hp} {d : Addr} {o : HO} (e : Ext ρ H ρ' H') (h : H d = none) : Ext ρ H ρ' (upd H' d o) :=
  ⟨e.pre, e.new, fun p u hp n => by rw [upd_ne (ne_of_none hp h)]; exact e.frame p u hp n⟩
theorem slot_caught {nl : Nat} {caps : List Nat} {σd : Sd} {i : Nat} {d : D} (h : slot (caught nl caps σd) i = some d) : ∃ j k, i = nl + j ∧ caps[j]? = some k ∧ slot σd k = some d := by
  unfold caught at h
  simp only [slot] at h
  by_cases hi : i < nl
  · rw [List.getElem?_append_left (by simpa using hi)] at h
    simp [hi] at h
  · rw [List.getElem?_append_right (by simpa using Nat.le_of_not_lt hi)] at h
    simp only [List.length_replicate, List.getElem?_map] at h
    cases c : caps[i - nl]? with
    | none => rw [c] at h; cases h
    | some k =>
      rw [c] at h
      simp only [Option.map_some] at h
      refine ⟨i - nl, k, by omega, c, ?_⟩
      simp only [slot]
      revert h
      cases e : σd[k]? with
      | none => simp
      | some o => cases o <;> simp
structure WalkG (K : PySem.W.Frag) (ρ0 : List Addr) (H0 : Hp) (J : It) (l : List D) (G : Hd → Prop) : Prop where
  go : ∀ ρ H hd (i : Nat) d, Ext ρ0 H0 ρ H → RH K ρ H hd → G hd → l[i]? = some d → J.go i H ∧ ∀ x H', J.yld i H x H' → Same H H' ∧ RD K ρ H' d x
  stop : ∀ ρ H hd, Ext ρ0 H0 ρ H → RH K ρ H hd → G hd → J.stop l.length H
  sz : l.length ≤ sizeLine
theorem Walk.g {K : PySem.W.Frag} {ρ : List Addr} {H : Hp} {J : It} {l : List D} {g : Option Nat} (w : Walk K ρ H J l g) : WalkG K ρ H J l (held g l) := ⟨w.go, w.stop, w.sz⟩
structure CD where
  i : Nat
  ys : List V
  acc : List D
  rest : List D
  ρ : List Addr
  σd : Sd
  hd : Hd
  H : Hp
  σ : St
structure CI (X : Cx) (own capn : List Str) (scope : Scope) (cl : List (Str × Addr)) (s2 : Shared) (C : Addr) (H1 : Hp) (ρ1 : List Addr) (fp : List Addr) (tn : Nat → Heap → Prop) (G : Hd → Prop) (g : GF) (cs : List TF) (e : EF) (l : List D) (hdF : Hd) (ds : List D) (d : CD) (s' : Shared) : Prop where
  le : d.i ≤ l.length
  inv : Inv (cxC X (own ++ capn) scope cl C s2 H1 fp) [] d.σ d.H s'
  st : tn d.i s'.heap
  fr : ∀ b ∈ fp, d.H b = none
  at' : d.H s2.heap.objs.size = some (.lst d.ys)
  out : s2.heap.objs.size ∉ d.ρ
  yl : d.ys.length ≤ d.i
  ex : Ext ρ1 H1 d.ρ d.H
  rs : RS X.K d.ρ d.H d.σd d.hd d.σ
  ac : RDs X.K d.ρ d.H d.acc d.ys
  run : compG G g cs e (l.drop d.i) d.σd d.hd = .ok d.rest hdF
  eq : d.acc ++ d.rest = ds
section
variable {X : Cx} {pins : List (Addr × Obj)} {σ : St} {H1 : Hp} {s2 : Shared} {scope : Scope} {own capn : List Str} {caps : List Nat} {cl : List (Str × Addr)}
theorem rst_caught {ρ1 : List Addr} {σd : Sd} {hd1 : Hd} (S : CScope X scope own capn caps) (r : RS X.K ρ1 H1 σd hd1 σ) {d : Addr} (hd : H1 d = none) : RS X.K ρ1 (upd H1 d (.lst [])) (caught own.length caps σd) hd1 (stC own caps σ) := by
  have sm := same_upd (o := HO.lst []) hd
  refine ⟨r.hp.same sm, ⟨by simp [stC, caught], fun i x e => ?_⟩⟩
  obtain ⟨j, k, rfl, hj, hs⟩ := slot_caught e
  obtain ⟨v, h1, h2⟩ := r.st.at' k x hs
  refine ⟨v, ?_, h2.mono (Kp.same sm)⟩
  unfold stC
  rw [List.getElem?_append_right (by simp)]
  simp [hj, h1]
theorem comp_core {elt tg iter : Expr} {ifs : List Expr} {pos : Pos} {it : Addr} {fp : List Addr} {tn : Nat → Heap → Prop} {J : It} {l : List D} {G : Hd → Prop} {g : GF} {cs : List TF} {e : EF} {ρ1 : List Addr} {σd : Sd} {hd1 hdF : Hd} {ds : List D} {E : Value → Shared → Prop} {RR : Value → Addr → Result → Shared → Prop}
    (hc : X.calm = true) (S : CScope X scope own capn caps) (hin : ∀ cl C s H ex, MG (cxC X (own ++ capn) scope cl C s H ex) tg g ∧ MTs (cxC X (own ++ capn) scope cl C s H ex) ifs cs ∧ ME (cxC X (own ++ capn) scope cl C s H ex) elt e)
    (I1 : Inv X pins σ H1 s2) (T : Turn X.prog X.w X.K tg J fp it tn) (st0 : tn 0 s2.heap) (hf : ∀ b ∈ fp, FpOk X pins H1 b) (rs1 : RS X.K ρ1 H1 σd hd1 σ) (wk : WalkG X.K ρ1 H1 J l G)
    (hcl1 : ∀ x c, cl.lookup x = some c → X.env.cells.lookup x = some c) (hcl2 : ∀ y ∈ scope.names, y.2 = .free → ∃ c, cl.lookup y.1 = some c)
    (run : compG G g cs e l (caught own.length caps σd) hd1 = .ok ds hdF)
    (hRR : ∀ C s' m H' ρ' vs, s2.heap.objs.size < C → s'.heap.Ns C m → Inv X pins σ H' s' → H' C = none → Ext ρ1 H1 ρ' H' → RH X.K ρ' H' hdF → H1 s2.heap.objs.size = none → H' s2.heap.objs.size = some (.lst vs) → s2.heap.objs.size ∉ ρ' → RDs X.K ρ' H' ds vs →
      RR (.ref s2.heap.objs.size) C (.ok .next) s') :
    wpAny (model X.prog X.w) X.A (newList []) (fun acc s₃ => wpAny (model X.prog X.w) X.A (newFunctionEnv scope X.env.globals cl [] X.env.qual none .none (some X.env)) (fun cenv s₄ =>
      codeAny (model X.prog X.w) X.A (.compStart (.ListComp elt [⟨tg, iter, ifs, 0⟩] scope pos) 0 (.ref it) acc { cenv with scope := relabel scope X.env }) (RR acc cenv.locals) s₄) E s₃) E s2 := by
  refine wpAny_newObj_type (wpAny_newFunctionEnv S.cell (by intro y hy; simp at hy) (fun h₁ hns₁ hsb₁ => ?_) S.kind)
  dsimp only at hns₁ hsb₁ ⊢
  generalize hH2 : s2.heap.push { cls := .type "list", dict := none, data := .seq ([] : List Value).toArray } = H2 at hns₁ hsb₁ ⊢
  have hC : H2.objs.size = s2.heap.objs.size + 1 := by rw [← hH2, Heap.size_push]
  have hDC : s2.heap.objs.size ≠ H2.objs.size := by rw [hC]; exact Nat.ne_of_lt (Nat.lt_succ_self _)
  have old : ∀ b o, s2.heap.get? b = some o → h₁.get? b = some o := fun b o e => hsb₁.extBut b o (by rw [hC]; exact Nat.ne_of_lt (Nat.lt_succ_of_lt (Heap.lt_size e))) (Heap.get?_push_of_some _ (hH2 ▸ Heap.get?_push_of_some _ e))
  have hacc : h₁.get? s2.heap.objs.size = some { cls := .type "list", data := .seq #[] } := hsb₁.extBut _ _ hDC (Heap.get?_push_of_some _ (hH2 ▸ Heap.get?_push_size _ rfl))
  have hlt : ∀ b ∈ fp, b < s2.heap.objs.size := fun b hb => by
    obtain ⟨o, ho, _⟩ := T.obj 0 _ st0 b hb
    exact Heap.lt_size ho
  have hCl : s2.heap.objs.size < H2.objs.size := by rw [hC]; exact Nat.lt_succ_self _
  have hD0 : H1 s2.heap.objs.size = none := I1.hok.fresh (Nat.le_refl _)
  have st1 : tn 0 h₁ := T.keep 0 _ _ st0 fun b hb o e => old b o e
  have hn1 : s2.heap.objs.size ∉ ρ1 := rs1.hp.free hD0
  obtain ⟨hG, hT, hE⟩ := hin cl H2.objs.size s2 H1 fp
  have I' := cxC_start (tk := s2.toks + ([] : List (Str × Value)).length) I1 S hCl hcl1 hcl2 hf hlt hns₁ old hacc
  have fpC : ∀ {pins' : List (Addr × Obj)} {H' : Hp}, (∀ b ∈ fp, H' b = none) → ∀ b ∈ fp, FpOk (cxC X (own ++ capn) scope cl H2.objs.size s2 H1 fp) [] H' b := fun {pins' H'} hn b hb => by
    obtain ⟨f0, f1, f2, f3, f4, f5⟩ := hf b hb
    have lt := hlt b hb
    refine ⟨hn b hb, fun z => absurd lt (by rw [show b = H2.objs.size from z, hC]; exact Nat.not_lt.mpr (Nat.le_succ _)), fun z => ?_, .inl hb, fun x c e => f4 x c (hcl1 x c e), fun p hp => absurd (show p ∈ ([] : List (Addr × Obj)) from hp) (by simp)⟩
    rcases List.mem_cons.mp (I1.stkSub b z) with q | q
    · exact f1 q
    · exact f2 q
  have loop : ∀ s₃ : Shared, s₃ = { s2 with heap := h₁, toks := s2.toks + ([] : List (Str × Value)).length } →
      codeAny (model X.prog X.w) X.A (.compLoop (.ListComp elt [⟨tg, iter, ifs, 0⟩] scope pos) 0 (.ref it) (.ref s2.heap.objs.size) (compEnvC scope cl H2.objs.size X.env)) (RR (.ref s2.heap.objs.size) H2.objs.size) s₃ := by
    rintro s₃ rfl
    refine compLoop_any (E := fun _ _ => False) (fun _ _ z => z) (fun n s' => ∃ d : CD, n = l.length - d.i ∧ CI X own capn scope cl s2 H2.objs.size H1 ρ1 fp tn G g cs e l hdF ds d s') ?_ l.length
      ⟨⟨0, [], [], ds, ρ1, _, hd1, _, _⟩, by simp, Nat.zero_le _, I', st1, fun b hb => ?_, upd_same, hn1, Nat.le_refl _, Ext.same (same_upd hD0), rst_caught S rs1 hD0, RDs.nil, by simpa using run, rfl⟩
    · rintro n s' ⟨⟨i, ys, acc, rest, ρ', σd', hd', H', σ'⟩, rfl, ci⟩
      have hil : i ≤ l.length := ci.le
      have I' : Inv (cxC X (own ++ capn) scope cl H2.objs.size s2 H1 fp) [] σ' H' s' := ci.inv
      have stn : tn i s'.heap := ci.st
      have hfp : ∀ b ∈ fp, H' b = none := ci.fr
      have hDy : H' s2.heap.objs.size = some (.lst ys) := ci.at'
      have hnD : s2.heap.objs.size ∉ ρ' := ci.out
      have hyl : ys.length ≤ i := ci.yl
      have ex : Ext ρ1 H1 ρ' H' := ci.ex
      have rs' : RS X.K ρ' H' σd' hd' σ' := ci.rs
      have racc : RDs X.K ρ' H' acc ys := ci.ac
      have hrun : compG G g cs e (l.drop i) σd' hd' = .ok rest hdF := ci.run
      have hds : acc ++ rest = ds := ci.eq
      by_cases hlt' : i < l.length
      · have hdi : l[i]? = some l[i] := by simp [hlt']
        rw [List.drop_eq_getElem_cons hlt'] at hrun
        unfold compG at hrun
        by_cases hh : G hd'
        · rw [if_pos hh] at hrun
          obtain ⟨go, yl⟩ := wk.go ρ' H' hd' i _ ex rs'.hp hh hdi
          cases c : g l[i] σd' with
          | none => rw [c] at hrun; cases hrun
          | some σd2 =>
            rw [c] at hrun
            simp only at hrun
            refine thn (T.item (cxC X (own ++ capn) scope cl H2.objs.size s2 H1 fp) rfl rfl rfl hc i [] s' σ' H' (fun _ _ => False) I' (fpC (pins' := []) hfp) stn go) fun r s₁ zq72 => ?_
            obtain ⟨u, hr, h4⟩ := zq72
            refine ?_
            subst hr
            refine thn h4 fun _ s5 zq73 => ?_
            obtain ⟨x, H5, I5, r5, y5, st5, fr5⟩ := zq73
            refine ?_
            obtain ⟨sm, rx⟩ := yl x H5 y5
            have I5' := I5.pinned (fpC (pins' := []) fr5) (T.obj _ _ st5)
            have rs5 := rs'.same sm
            have hDy5 := sm _ _ hDy
            refine thn (hG _ s5 σ' H5 x u (fun σ6 H6 => H6 = H5 ∧ RS X.K ρ' H5 σd2 hd' σ6) I5' r5 ⟨ρ', σd', hd', l[i], σd2, rs5, rx, c, fun σ6 rs6 => ⟨rfl, rs6⟩⟩) fun _ s6 zq74 => ?_
            obtain ⟨σ6, H6, I6, hH6, rs6⟩ := zq74
            refine ?_
            subst hH6
            cases c2 : tests cs σd2 hd' with
            | exc z h7 => rw [c2] at hrun; cases hrun
            | bad => rw [c2] at hrun; cases hrun
            | ok b hd7 =>
              rw [c2] at hrun
              simp only [bind_ok] at hrun
              refine thn (hT _ s6 σ6 H6 (fun b' H7 => b' = b ∧ ∃ ρ7, Ext ρ' H6 ρ7 H7 ∧ RS X.K ρ7 H7 σd2 hd7 σ6) I6 ⟨ρ', σd2, hd', rs6, by
                rw [c2]
                exact fun b' H7 ρ7 ex7 rs7 q => ⟨q.symm, ρ7, ex7, rs7⟩⟩) fun b' s7 ⟨H7, I7, hb', ρ7, ex7, rs7⟩ => ?_
              subst hb'
              have stay : ∀ {σ8 : St} {H8 : Hp} {s8 : Shared}, Inv (cxC X (own ++ capn) scope cl H2.objs.size s2 H1 fp) ([] ++ pinsAt fp s5.heap) σ8 H8 s8 → tn (i + 1) s8.heap ∧ ∀ b ∈ fp, H8 b = none := fun {σ8 H8 s8} I8 =>
                ⟨T.keep _ _ _ st5 fun b hb o e => (I8.pin (b, o) (List.mem_append_right _ (List.mem_append_right _ (mem_pinsAt hb e)))).1, fun b hb => by
                  obtain ⟨o, e, d⟩ := T.obj _ _ st5 b hb
                  exact (I8.pin (b, o) (List.mem_append_right _ (List.mem_append_right _ (mem_pinsAt hb e)))).2.1⟩
              have ex5 : Ext ρ' H' ρ7 H7 := (Ext.same sm).trans ex7
              have hDy7 : H7 s2.heap.objs.size = some (.lst ys) := ex5.frame _ _ hDy hnD
              have hnD7 := ex5.out hDy hnD
              have racc7 := racc.mono (rs'.hp.kp ex5)
              cases b' with
              | false =>
                simp only [Bool.false_eq_true, if_false] at hrun ⊢
                obtain ⟨st8, f8⟩ := stay I7
                exact ⟨l.length - (i + 1), by omega, ⟨i + 1, ys, acc, rest, ρ7, σd2, hd7, H7, σ6⟩, rfl, hlt', I7.unpinned, st8, f8, hDy7, hnD7, Nat.le_succ_of_le hyl, ex.trans ex5, rs7, racc7, hrun, hds⟩
              | true =>
                simp only [if_true] at hrun ⊢
                cases c3 : e σd2 hd7 with
                | exc z h7 => rw [c3] at hrun; cases hrun
                | bad => rw [c3] at hrun; cases hrun
                | ok d hd8 =>
                  rw [c3] at hrun
                  simp only [bind_ok] at hrun
                  cases c4 : compG G g cs e (l.drop (i + 1)) σd2 hd8 with
                  | exc z h7 => rw [c4] at hrun; cases hrun
                  | bad => rw [c4] at hrun; cases hrun
                  | ok rest' hd9 =>
                    rw [c4] at hrun
                    simp only [bind_ok, Res.ok.injEq] at hrun
                    obtain ⟨hrest, hF⟩ := hrun
                    subst hrest hF
                    refine thn (hE _ s7 σ6 H7 (fun v H8 => ∃ ρ8, Ext ρ7 H7 ρ8 H8 ∧ RS X.K ρ8 H8 σd2 hd8 σ6 ∧ RD X.K ρ8 H8 d v) I7 ⟨ρ7, σd2, hd7, rs7, by
                      rw [c3]
                      exact fun v H8 ρ8 ex8 rs8 q => ⟨ρ8, ex8, rs8, q⟩⟩) fun u8 s8 ⟨v8, H8, I8, r8, ρ8, ex8, rs8, rd8⟩ => ?_
                    have hDy8 : H8 s2.heap.objs.size = some (.lst ys) := ex8.frame _ _ hDy7 hnD7
                    have hnD8 := ex8.out hDy7 hnD7
                    refine thn (mt_append _ s8 σ6 H8 (.ref s2.heap.objs.size) [v8] (.ref s2.heap.objs.size) [u8] (fun _ H9 => H9 = upd H8 s2.heap.objs.size (.lst (ys ++ [v8]))) I8 rfl (.cons r8 .nil) ⟨_, ys, v8, rfl, rfl, hDy8, by have := wk.sz; omega, rfl⟩) fun u9 s9 zq75 => ?_
                    obtain ⟨v9, H9, I9, r9, q9⟩ := zq75
                    refine ?_
                    subst q9
                    obtain ⟨st9, f9⟩ := stay I9
                    obtain ⟨rs9, k9⟩ := rs8.other (zs := ys ++ [v8]) hDy8 hnD8
                    exact ⟨l.length - (i + 1), by omega, ⟨i + 1, ys ++ [v8], acc ++ [d], rest', ρ8, σd2, hd8, _, σ6⟩, rfl, hlt', I9.unpinned, st9, f9, upd_same, hnD8, by simp; exact hyl, (ex.trans (ex5.trans ex8)).other hD0, rs9,
                      ((racc7.mono (rs7.hp.kp ex8)).mono k9).append (RDs.cons (rd8.mono k9) RDs.nil), c4, by rw [← hds]; simp⟩
        · rw [if_neg hh] at hrun; cases hrun
      · have e0 : i = l.length := by omega
        subst e0
        rw [List.drop_length] at hrun
        unfold compG at hrun
        by_cases hh : G hd'
        · rw [if_pos hh] at hrun
          simp only [Res.ok.injEq] at hrun
          obtain ⟨hrest, hF⟩ := hrun
          subst hrest hF
          rw [List.append_nil] at hds
          subst hds
          refine thn (T.done (cxC X (own ++ capn) scope cl H2.objs.size s2 H1 fp) rfl rfl rfl hc _ [] s' σ' H' (fun _ _ => False) I' (fpC (pins' := []) hfp) stn (wk.stop ρ' H' hd' ex rs'.hp hh)) fun r s₁ zq76 => ?_
          obtain ⟨hr, I4⟩ := zq76
          refine ?_
          subst hr
          obtain ⟨m, hm, _⟩ := I4.loc
          refine hRR H2.objs.size s₁ m H' ρ' ys hCl hm ?_ I4.free ex rs'.hp hD0 hDy hnD racc
          exact I1.call' I4.os I4.base I4.hok I4.bare fun b hb => by
            obtain ⟨f0, f1, f2, f3, f4, f5⟩ := hf b hb
            exact ⟨f3, f1, f4, f5⟩
        · rw [if_neg hh] at hrun; cases hrun
    · show upd H1 _ _ b = none
      rw [upd_ne (Nat.ne_of_lt (hlt b hb))]
      exact (hf b hb).1
  exact codeAny_compStart_list (loop _ rfl) (T.self _ 0 _ _ _ st1 (loop _ rfl))
end
section
variable {X : Cx} {pos : Pos} {scope : Scope} {own capn : List Str} {caps : List Nat}
theorem mf_comp {elt tg iter : Expr} {ifs : List Expr} {f : IF} {g : GF} {cs : List TF} {e : EF} (hc : X.calm = true) (S : CScope X scope own capn caps) (hi : MI X tg iter f)
    (hin : ∀ cl C s H ex, MG (cxC X (own ++ capn) scope cl C s H ex) tg g ∧ MTs (cxC X (own ++ capn) scope cl C s H ex) ifs cs ∧ ME (cxC X (own ++ capn) scope cl C s H ex) elt e)
    (hs : ∀ x, foldedSetIterable iter X.env x = pure x := by intro _; rfl) : MF X (.ListComp elt [⟨tg, iter, ifs, 0⟩] scope pos) (lComp own.length caps f g cs e) := by
  intro pins s σ H Q I ⟨ρ, σd, hd, rs, p⟩
  rw [eval_ListComp]
  unfold lComp at p
  cases c : f σd hd with
  | exc z h7 => rw [c] at p; exact p.elim
  | bad => rw [c] at p; exact p.elim
  | ok q hd1 =>
    obtain ⟨l, gd⟩ := q
    rw [c] at p
    simp only [bind_ok] at p
    obtain ⟨cl, h1, hcl1, hcl2⟩ := closure_of (scope := scope) (env := X.env) fun y hy hyf => I.ok.has y.1 (S.free y hy hyf)
    refine wpAny_comprehension_free (use := none) rfl hs h1 S.kind S.names (thn (hi pins s σ H (fun J H1 => ∃ ρ1, Ext ρ H ρ1 H1 ∧ RS X.K ρ1 H1 σd hd1 σ ∧ Walk X.K ρ1 H1 J l gd) I ⟨ρ, σd, hd, rs, by
      rw [c]
      exact fun J H' ρ' ex rs' wk => ⟨ρ', ex, rs', wk⟩⟩) fun v s1 h1 => thn h1 fun itv s2 h2 => ?_)
    obtain ⟨it, fp, tn, J, H1, rfl, I1, T, st0, hf, ρ1, ex1, rs1, wk⟩ := h2
    cases c2 : compL gd l g cs e l (caught own.length caps σd) hd1 with
    | exc z h7 => rw [c2] at p; exact p.elim
    | bad => rw [c2] at p; exact p.elim
    | ok ds hdF =>
      rw [c2] at p
      refine comp_core (RR := fun acc C => compPost (model X.prog X.w) X.A X.xe none (EP X pins σ Q) acc C) hc S hin I1 T st0 hf rs1 wk.g hcl1 hcl2 ((compL_G _ _ _).symm.trans c2) fun C s' m H' ρ' vs hC hn I' hCn ex rh hD0 hD hnD rds => ?_
      refine ⟨m, hn, fun h' sb => ⟨.ref s2.heap.objs.size, H', ?_, rfl, ?_⟩⟩
      · refine I'.turned (it := C) (t' := s'.toks) (fun b o hb e => (sb.2 b hb).trans e) hCn ?_ (.inr (Nat.le_of_lt (Nat.lt_of_le_of_lt I1.sz hC))) (fun x c e z => ?_) fun q hq z => ?_
        · exact Nat.ne_of_gt (Nat.lt_trans I1.lt hC)
        · obtain ⟨v, o, ho, hd⟩ := I1.cell x c e
          exact absurd (Nat.lt_trans (Heap.lt_size ho) hC) (by rw [z]; exact Nat.lt_irrefl _)
        · exact absurd (Nat.lt_trans (Heap.lt_size (I1.pin q hq).1) hC) (by rw [z]; exact Nat.lt_irrefl _)
      · exact p _ vs H' ρ' (ex1.trans ex) (rs.ext (ex1.trans ex) rh) (ex1.fresh hD0 (rs1.hp.free hD0)) hD hnD rds
theorem ms_setC {i : Nat} {x : Str} {pos' : Pos} {elt tg iter : Expr} {ifs : List Expr} {f : IF} {g : GF} {cs : List TF} {e : EF} {cpos : Pos} (hN : X.N.Nodup) (hi' : X.N[i]? = some x) (hx : Loc X.env.scope x) (hc : X.calm = true) (S : CScope X scope own capn caps) (hi : MI X tg iter f)
    (hin : ∀ cl C s H ex, MG (cxC X (own ++ capn) scope cl C s H ex) tg g ∧ MTs (cxC X (own ++ capn) scope cl C s H ex) ifs cs ∧ ME (cxC X (own ++ capn) scope cl C s H ex) elt e)
    (hsw : swapsWith (.ListComp elt [⟨tg, iter, ifs, 0⟩] scope cpos) (some (.Name x pos')) pos.line X.env = pure true := by rfl)
    (hs : ∀ x, foldedSetIterable iter X.env x = pure x := by intro _; rfl) (hf' : X.fn x = true ∨ X.env.scope.names.lookup x = some .local := by first | exact .inl rfl | exact .inr rfl | assumption) :
    MS X (.Assign [.Name x pos'] (.ListComp elt [⟨tg, iter, ifs, 0⟩] scope cpos) pos) (sSet (gN i) (fNew (lComp own.length caps f g cs e))) := by
  intro pins s σ H En I ⟨ρ, σd, hd, rs, p⟩
  rw [exec_Assign_Name_used _ _ _ _ hsw]
  refine wpAny_bind (wpAny_standAt ?_)
  show wpAny _ _ ((comprehension _ scope X.env _ (newList []) _ _ _ >>= fun _ => pure ()) >>= fun _ => pure Flow.next) _ _ _
  have p1 := PostS.outE (σ := σ) p
  unfold fNew lComp at p1
  cases c : f σd hd with
  | exc z h7 => rw [c] at p1; exact p1.elim
  | bad => rw [c] at p1; exact p1.elim
  | ok q hd1 =>
    obtain ⟨l, gd⟩ := q
    rw [c] at p1
    simp only [bind_ok] at p1
    obtain ⟨cl, h1, hcl1, hcl2⟩ := closure_of (scope := scope) (env := X.env) fun y hy hyf => I.ok.has y.1 (S.free y hy hyf)
    refine wpAny_bind (wpAny_bind (wpAny_comprehension_free (Q := fun _ s' => wpAny (model X.prog X.w) X.A (pure ()) (fun _ s' => wpAny (model X.prog X.w) X.A (pure Flow.next) (SP X pins En) X.xe s') X.xe s') (use := some (assign (.Name x pos') X.env)) rfl hs h1 S.kind S.names (thn (hi pins s σ H (fun J H1 => ∃ ρ1, Ext ρ H ρ1 H1 ∧ RS X.K ρ1 H1 σd hd1 σ ∧ Walk X.K ρ1 H1 J l gd) I ⟨ρ, σd, hd, rs, by
      rw [c]
      exact fun J H' ρ' ex rs' wk => ⟨ρ', ex, rs', wk⟩⟩) fun v s1 h1 => thn h1 fun itv s2 h2 => ?_)))
    obtain ⟨it, fp, tn, J, H1, rfl, I1, T, st0, hf, ρ1, ex1, rs1, wk⟩ := h2
    cases c2 : compL gd l g cs e l (caught own.length caps σd) hd1 with
    | exc z h7 => rw [c2] at p1; exact p1.elim
    | bad => rw [c2] at p1; exact p1.elim
    | ok ds hdF =>
      rw [c2] at p1
      simp only [bind_ok] at p1
      by_cases hz : ds.length ≤ SZ
      · rw [if_pos hz] at p1
        refine comp_core (RR := fun acc C => compPost (model X.prog X.w) X.A X.xe (some (assign (.Name x pos') X.env)) _ acc C) hc S hin I1 T st0 hf rs1 wk.g hcl1 hcl2 ((compL_G _ _ _).symm.trans c2) fun C s' m H' ρ' vs hC hn I' hCn ex rh hD0 hD hnD rds => ?_
        refine wpAny_assign_Name (store_ok2 I' hN hi' hx (v := .ref s2.heap.objs.size) rfl (fun s'' I'' hsb => ?_) hf')
        have hCl : C ≠ X.env.locals := Nat.ne_of_gt (Nat.lt_trans I1.lt hC)
        have hCc : ∀ y c, X.env.cells.lookup y = some c → c ≠ C := fun y c e z => by
          obtain ⟨v, o, ho, hd⟩ := I1.cell y c e
          exact absurd (Nat.lt_trans (Heap.lt_size ho) hC) (by rw [z]; exact Nat.lt_irrefl _)
        refine ⟨m, ?_, fun h' sb => wpAny_pure (wpAny_pure ?_)⟩
        · obtain ⟨a, sa, ha⟩ := hsb
          refine hn.sameBut sa ?_
          rcases ha with z | z
          · rw [z]; exact hCl
          · exact Ne.symm (hCc _ _ z)
        · have I3 : Inv X pins (σ.set i (some (.ref s2.heap.objs.size))) H' { s'' with heap := h' } := I''.turned (it := C) (t' := s''.toks) (fun b o hb e => (sb.2 b hb).trans e) hCn hCl (.inr (Nat.le_of_lt (Nat.lt_of_le_of_lt I1.sz hC))) hCc fun q hq z =>
            absurd (Nat.lt_trans (Heap.lt_size (I1.pin q hq).1) hC) (by rw [z]; exact Nat.lt_irrefl _)
          have ex' : Ext ρ H ρ' H' := ex1.trans ex
          have rh' := rh.alloc hD hnD rds
          have hH0 : H s2.heap.objs.size = none := ex1.fresh hD0 (rs1.hp.free hD0)
          have exA : Ext ρ H (ρ' ++ [s2.heap.objs.size]) H' := ⟨by obtain ⟨t, rfl⟩ := ex'.pre; exact ⟨t ++ [s2.heap.objs.size], by simp⟩, fun a ha => by
            rcases List.mem_append.mp ha with z | z
            · exact ex'.new a z
            · simp at z; subst z; exact .inr hH0, ex'.frame⟩
          obtain ⟨ρ2, d2, hd2, e2, rs2, rd2, pn⟩ := p1 (.ref s2.heap.objs.size) H' (ρ' ++ [s2.heap.objs.size]) exA (rs.ext exA rh') (by
            simp only [rD, RD]
            refine ⟨s2.heap.objs.size, ?_, rfl⟩
            rw [← rh.len]
            simp)
          exact ⟨_, H', I3, pn _ H' ρ2 Ext.refl ⟨rs2.hp, rs2.st.set i rd2⟩⟩
      · rw [if_neg hz] at p1; exact p1.elim
end
end Fm
set_option Elab.async false
set_option linter.all false
set_option maxRecDepth 100000
namespace Fm
open PySem PySem.Spec L2 PyProof.Rows
mutual
noncomputable def rfs (k : Nat) : D → Prop
  | .ref n => n < k
  | .tup l => rfss k l
  | .lit l => rfss k l
  | .exn _ l => rfss k l
  | _ => True
noncomputable def rfss (k : Nat) : List D → Prop
  | [] => True
  | x :: xs => rfs k x ∧ rfss k xs
end
section
variable {K : PySem.W.Frag} {ρ ρ' t : List Addr} {H H' : Hp} {hd hd' : Hd}
mutual
theorem RD.rfs : ∀ {d : D} {v : V}, RD K ρ H d v → Fm.rfs ρ.length d
  | .non, _, _ => by simp only [Fm.rfs]
  | .bl _, _, _ => by simp only [Fm.rfs]
  | .int _, _, _ => by simp only [Fm.rfs]
  | .str _, _, _ => by simp only [Fm.rfs]
  | .tup l, _, h => by
    simp only [RD] at h; obtain ⟨p, vs, _, _, h2⟩ := h
    simp only [Fm.rfs]; exact RDs.rfs h2
  | .lit l, _, h => by
    simp only [RD] at h; obtain ⟨p, vs, _, _, h2⟩ := h
    simp only [Fm.rfs]; exact RDs.rfs h2
  | .ref n, _, h => by
    simp only [RD] at h; obtain ⟨a, h1, _⟩ := h
    simp only [Fm.rfs]; exact (List.getElem?_eq_some_iff.mp h1).1
  | .exn _ _, _, h => by simp only [RD] at h
theorem RDs.rfs : ∀ {l : List D} {vs : List V}, RDs K ρ H l vs → Fm.rfss ρ.length l
  | [], _, _ => by simp only [Fm.rfss]
  | d :: ds, _, h => by
    simp only [RDs] at h; obtain ⟨v, r, _, h1, h2⟩ := h
    simp only [Fm.rfss]; exact ⟨RD.rfs h1, RDs.rfs h2⟩
end
mutual
theorem RD.cut : ∀ {d : D} {v : V}, RD K (ρ ++ t) H d v → Fm.rfs ρ.length d → RD K ρ H d v
  | .non, _, h, _ => by simp only [RD] at h ⊢; exact h
  | .bl _, _, h, _ => by simp only [RD] at h ⊢; exact h
  | .int _, _, h, _ => by simp only [RD] at h ⊢; exact h
  | .str _, _, h, _ => by simp only [RD] at h ⊢; exact h
  | .tup l, _, h, q => by
    simp only [RD] at h ⊢; simp only [Fm.rfs] at q
    obtain ⟨p, vs, e, h1, h2⟩ := h
    exact ⟨p, vs, e, h1, RDs.cut h2 q⟩
  | .lit l, _, h, q => by
    simp only [RD] at h ⊢; simp only [Fm.rfs] at q
    obtain ⟨p, vs, e, h1, h2⟩ := h
    exact ⟨p, vs, e, h1, RDs.cut h2 q⟩
  | .ref n, _, h, q => by
    simp only [RD] at h ⊢; simp only [Fm.rfs] at q
    obtain ⟨a, h1, h2⟩ := h
    exact ⟨a, by rwa [List.getElem?_append_left q] at h1, h2⟩
  | .exn _ _, _, h, _ => by simp only [RD] at h
theorem RDs.cut : ∀ {l : List D} {vs : List V}, RDs K (ρ ++ t) H l vs → Fm.rfss ρ.length l → RDs K ρ H l vs
  | [], _, h, _ => by simp only [RDs] at h ⊢; exact h
  | d :: ds, _, h, q => by
    simp only [RDs] at h ⊢; simp only [Fm.rfss] at q
    obtain ⟨v, r, e, h1, h2⟩ := h
    exact ⟨v, r, e, RD.cut h1 q.1, RDs.cut h2 q.2⟩
end
mutual
theorem pure_rfs {k : Nat} : ∀ {d : D}, pure? d = true → Fm.rfs k d
  | .non, _ => by simp only [Fm.rfs]
  | .bl _, _ => by simp only [Fm.rfs]
  | .int _, _ => by simp only [Fm.rfs]
  | .str _, _ => by simp only [Fm.rfs]
  | .tup l, h => by simp only [pure?] at h; simp only [Fm.rfs]; exact pures_rfs h
  | .lit l, h => by simp only [pure?] at h; simp only [Fm.rfs]; exact pures_rfs h
  | .exn _ l, h => by simp only [pure?] at h; simp only [Fm.rfs]; exact pures_rfs h
  | .ref _, h => by simp only [pure?] at h; cases h
theorem pures_rfs {k : Nat} : ∀ {l : List D}, pures l = true → Fm.rfss k l
  | [], _ => by simp only [Fm.rfss]
  | x :: xs, h => by
    simp only [pures, Bool.and_eq_true] at h
    simp only [Fm.rfss]; exact ⟨pure_rfs h.1, pures_rfs h.2⟩
end
noncomputable def cellR (k : Nat) : Cell → Prop
  | .lst l => Fm.rfss k l
  | .dct l => Fm.rfss k (l.map (·.2))
theorem RC.rfs {c : Cell} {a : Addr} (h : RC K ρ H c a) : cellR ρ.length c := by
  cases c with
  | lst l => obtain ⟨vs, _, h2⟩ := h; exact h2.rfs
  | dct l => obtain ⟨vs, _, _, h2⟩ := h; exact h2.rfs
theorem RC.cut {c : Cell} {a : Addr} (h : RC K (ρ ++ t) H c a) (q : cellR ρ.length c) : RC K ρ H c a := by
  cases c with
  | lst l => obtain ⟨vs, h1, h2⟩ := h; exact ⟨vs, h1, h2.cut q⟩
  | dct l => obtain ⟨vs, h1, h2, h3⟩ := h; exact ⟨vs, h1, h2, h3.cut q⟩
theorem cellPure_rfs {k : Nat} {c : Cell} (h : cellPure c = true) : cellR k c := by
  cases c with
  | lst l => exact pures_rfs h
  | dct l =>
    have : ∀ l : List (Int × D), (l.all fun p => pure? p.2) = true → Fm.rfss k (l.map (·.2)) := by
      intro l
      induction l with
      | nil => intro _; simp only [List.map_nil, Fm.rfss]
      | cons x l ih => intro h; simp only [List.all_cons, Bool.and_eq_true] at h; simp only [List.map_cons, Fm.rfss]; exact ⟨pure_rfs h.1, ih h.2⟩
    exact this l h
theorem RH.back (r : RH K ρ H hd) (r' : RH K (ρ ++ t) H' hd') (o : oldOk hd hd') : RH K ρ H' (hd'.take hd.length) := by
  have hl : (ρ ++ t).length = hd'.length := r'.len
  refine ⟨by rw [List.length_take, ← hl, List.length_append, ← r.len]; omega, (List.nodup_append.mp r'.nd).1, fun n c a h1 h2 => ?_⟩
  have hn : n < hd.length := by rw [← r.len]; exact (List.getElem?_eq_some_iff.mp h2).1
  rw [List.getElem?_take_of_lt hn] at h1
  have q := r'.cel n c a h1 (by rw [List.getElem?_append_left (by rw [r.len]; exact hn)]; exact h2)
  refine q.cut ?_
  rcases o n c hn h1 with z | z
  · exact (r.cel n c a z h2).rfs
  · exact cellPure_rfs z
noncomputable def PostR (K : PySem.W.Frag) (ρ : List Addr) (H : Hp) (r : Res D) (Q : VK) : Prop := match r with
  | .ok d hd' => ∀ v H' ρ', Ext ρ H ρ' H' → RH K ρ' H' hd' → RD K ρ' H' d v → Q v H'
  | _ => False
noncomputable def spF (K : PySem.W.Frag) (F : Fn) (np : Nat) : Sp := fun vs H Q _ => ∃ ρ hd ds, RH K ρ H hd ∧ RDs K ρ H ds vs ∧ ds.length = np ∧ PostR K ρ H (F ds hd) Q
theorem Ext.short (e : Ext ρ H (ρ ++ t) H') : Ext ρ H ρ H' := ⟨⟨[], by simp⟩, fun _ h => .inl h, e.frame⟩
theorem PostR.letGo {r : Res D} {Q : VK} (rh : RH K ρ H hd) (p : PostR K ρ H (letGo hd r) Q) : PostR K ρ H r Q := by
  cases r with
  | exc x h' => exact p
  | bad => exact p
  | ok d h' =>
    intro v H' ρ' ex rh' rd
    simp only [Fm.letGo] at p
    split at p
    · rename_i hc
      obtain ⟨t, rfl⟩ := ex.pre
      exact p v H' ρ ex.short (rh.back rh' hc.2) (rd.cut (pure_rfs hc.1))
    · exact p v H' ρ' ex rh' rd
theorem PostR.runB {n : Nat} {b : SF} {ds : List D} {Q : VK} (p : PostR K ρ H (runB n b ds hd) Q) : PostS K ρ H (b (ds.map some ++ List.replicate (n - ds.length) none) hd) { nx := fun _ H' => Q .non H', rt := Q } := by
  unfold Fm.runB at p
  cases e : b (ds.map some ++ List.replicate (n - ds.length) none) hd with
  | nx σ h' => rw [e] at p; exact fun σ' H' ρ' ex rs => p .non H' ρ' ex rs.hp (by simp only [RD])
  | rt d h' => rw [e] at p; exact p
  | bk σ h' => rw [e] at p; exact p.elim
  | ct σ h' => rw [e] at p; exact p.elim
  | exc x σ h' => rw [e] at p; exact p.elim
  | bad => rw [e] at p; exact p.elim
theorem rst_start {N : List Str} {ds : List D} {vs : List V} (r : RDs K ρ H ds vs) : RSt K ρ H (ds.map some ++ List.replicate (N.length - ds.length) none) (L2.start N vs) := by
  have hl := r.length
  refine ⟨by simp [L2.start, hl], fun i d e => ?_⟩
  simp only [slot] at e
  by_cases hi : i < ds.length
  · rw [List.getElem?_append_left (by simpa using hi)] at e
    simp only [List.getElem?_map, List.getElem?_eq_getElem hi, Option.map_some] at e
    cases e
    obtain ⟨v, hv, q⟩ := r.get (i := i) (d := ds[i]) (by simp [hi])
    refine ⟨v, ?_, q⟩
    unfold L2.start
    rw [List.getElem?_append_left (by simp; omega)]
    simp [hv]
  · rw [List.getElem?_append_right (by simpa using Nat.le_of_not_lt hi)] at e
    simp only [List.getElem?_replicate] at e
    by_cases hq : i - (List.map some ds).length < N.length - ds.length
    · simp only [hq, if_true] at e; cases e
    · simp only [hq, if_false] at e; cases e
end
structure Def (P : Program) (w : World) (K : PySem.W.Frag) (mg : Str → Option Value) (base : Heap) (x : Str) (k np : Nat) (F : Fn) : Prop where
  ex : ∃ f fd ps, mg x = some (.ref f) ∧ PySem.W.keepIn K (.ref f) = true ∧ Binds K fd ps [] ∧ FnOk P w K mg base CX0 k f fd ps (spF K F np)
section
variable {P : Program} {w : World} {K : PySem.W.Frag} {mg : Str → Option Value} {base : Heap}
theorem fn_mk {x : Str} {st : Stmt} {f : Addr} {fd : FuncData} {N ps : List Str} {k : Nat} {b : SF} (F : Fun K x x st f fd) (S : FnScope N ps (defScope st))
    (body : ∀ (cdv : Value) (A : Around) (outer : List Env) (s : Shared) (H : Hp) (E : XK), Room k (A.deeper (envOfC x (defScope st) s.heap.objs.size f cdv)) → MSs (cxOf CX0 P w K mg base N x (defScope st) f cdv A outer s H E).nox (defBody st) b) :
    FnOk P w K mg base CX0 (k + 1) f fd ps (spF K (mkFn ps.length N.length b) ps.length) := by
  refine F.ok S (fun vs H Q E ⟨ρ, hd, ds, rh, rd, hl, p⟩ => by rw [← rd.length]; exact hl) fun cdv A outer s H vs Q E hr zq77 => ?_
  obtain ⟨ρ, hd, ds, rh, rd, hl, p⟩ := zq77
  refine ⟨_, body cdv A outer s H E hr, ρ, _, hd, ⟨rh, rst_start rd⟩, ?_⟩
  simp only [mkFn, hl, if_true] at p
  exact (PostR.letGo rh p).runB
theorem Def.mk' {x : Str} {f : Addr} {fd : FuncData} {ps : List Str} {k np : Nat} {F : Fn} (hm : mg x = some (.ref f)) (hk : PySem.W.keepIn K (.ref f) = true) (hb : Binds K fd ps []) (h : FnOk P w K mg base CX0 k f fd ps (spF K F np)) : Def P w K mg base x k np F := ⟨f, fd, ps, hm, hk, hb, h⟩
end
section
variable {X : Cx} {pos p : Pos}
theorem me_call {x : Str} {k np : Nat} {F : Fn} {e : Expr} {es : List Expr} {r : LF} (hd : Def X.prog X.w X.K X.mg X.base x k np F) (hr : Room k X.A) (hg : Gl X x) (ha : MA X (e :: es) r) (hnp : ∀ ds h d h', F ds h = .ok d h' → ds.length = np)
    (hdb : (x == ("__debug__" : Str)) = false := by decide) (he : starEach (e :: es) X.env = (false, eval e X.env) :: starEach es X.env := by rfl) (hpl : (backTo pos (starEach es X.env)).any (·.1) = false := by rfl) :
    ME X (.Call (.Name x p) (e :: es) [] pos) (fCall F r) := by
  obtain ⟨f, fd, ps, h1, h2, h3, h4⟩ := hd.ex
  refine PE.imp (pe_call h4 hr hg h1 h2 h3 .nil pass0 ha hdb he hpl) fun σ H Q zq78 => ?_
  obtain ⟨ρ, σd, hd, rs, pp⟩ := zq78
  refine ⟨ρ, σd, hd, rs, ?_⟩
  refine (Post.bind (R := rDs X.K) pp).imp fun vs H1 zq79 => ?_
  obtain ⟨ρ1, ds, hd1, e1, rs1, rv, p1⟩ := zq79
  refine ?_
  rw [List.append_nil]
  cases c : F ds hd1 with
  | exc z h' => rw [c] at p1; exact p1.elim
  | bad => rw [c] at p1; exact p1.elim
  | ok d hd2 =>
    rw [c] at p1
    refine ⟨ρ1, hd1, ds, rs1.hp, rv, hnp _ _ _ _ c, ?_⟩
    rw [c]
    exact fun v H' ρ' ex rh rd => p1 v H' ρ' ex (rs1.ext ex rh) rd
theorem mkFn_np {np n : Nat} {b : SF} : ∀ ds h d h', mkFn np n b ds h = .ok d h' → ds.length = np := by
  intro ds h d h' e
  unfold mkFn at e
  split at e
  · assumption
  · cases e
end
theorem walkF {l : PySem.W.OpenLaw} {q : Program} {loose : List Str} {XP : (Str → Option Value) → Heap → Prop} {YP : World → Heap → Prop} {d : DefRec} {K : Params → PySem.W.Frag} {F : Fn} {k : Nat} {x : Str} (hn : l.most = some 63) (hdf : d.params.defaults = []) (hr : Room k callerA)
    (hY : ∀ (w : World) (h : Heap), YP w h → (K w.params).In h)
    (hF : ∀ (w : World) (mg : Str → Option Value) (fa : Addr) (h : Heap), (K w.params).In h → h.Ns mainGlobals mg → mg d.name = some (.ref fa) →
      ∃ fd : FuncData, (∀ (s : Shared) (u : Value), BindsTo s fd ⟨[u], []⟩ [(x, u)]) ∧ ∀ base : Heap, (K w.params).In base → base.Ns mainGlobals mg → FnOk l.prog w (K w.params) mg base CX0 k fa fd [x] (spF (K w.params) F 1))
    (law : ∀ ns : List Int, ns.length ≤ 63 → ∃ h, F [.lit (ns.map .int)] [] = .ok (.bl true) h) :
    PySem.W.WalkO q loose XP YP l.row.toRowW d [] (fun f vs => PySem.call f vs) := by
  refine L2.walk_of (n := 63) (k := k) (x := x) (CX := fun _ => CX0) (sp := fun w => spF (K w.params) F 1) hn (by decide) hdf hr hY hF (fun w H a ns hl hO hS => ?_) fun _ _ _ _ _ z => z
  obtain ⟨h, e⟩ := law ns hl
  have hL : LitAt (K w.params) H a (ns.map V.int) := by
    rcases hS with (z | ⟨o, z⟩) | z
    · rcases hO a with y | ⟨o, xs, y⟩ <;> (rw [z] at y; cases y)
    · exact .inl ⟨o, z⟩
    · exact .inr z
  have hI : RDs (K w.params) [] H (ns.map D.int) (ns.map V.int) := by
    clear hl hS e hL law
    induction ns with
    | nil => exact RDs.nil
    | cons n ns ih => exact RDs.cons (by simp only [RD]) ih
  refine ⟨[], [], [.lit (ns.map .int)], ⟨rfl, List.nodup_nil, fun n c a h1 => by simp at h1⟩, RDs.cons (by simp only [RD]; exact ⟨a, _, rfl, hL, hI⟩) RDs.nil, rfl, ?_⟩
  rw [e]
  intro v H' ρ' ex rh rd
  simpa only [RD] using rd
end Fm
set_option Elab.async false
set_option linter.all false
set_option maxRecDepth 100000
namespace Fm
open PySem PySem.Spec L2
open PyProof.Rows (Subscript_ tail_any)
noncomputable def tyS : Ty → String
  | .int => "int" | .bool => "bool" | .tuple => "tuple" | .list => "list" | .str => "str"
theorem ty_meta (t : Ty) : typeOf (.type (tyS t)) = pure (.type "type") := by
  cases t
  · exact F.isi_meta_int
  · exact F.isi_meta_bool
  · exact F.isi_meta_tuple
  · exact F.isi_meta_list
  · exact F.isi_meta_str
theorem ty_none (t : Ty) : isSubtype (.type "NoneType") (.type (tyS t)) = pure false := by cases t <;> (rw [isSubtype_type]; kernel_rfl)
theorem ty_int {t : Ty} (h : t ≠ .int) : isSubtype (.type "int") (.type (tyS t)) = pure false := by cases t <;> first | exact absurd rfl h | (rw [isSubtype_type]; kernel_rfl)
theorem ty_bool {t : Ty} (h : t ≠ .int) (h2 : t ≠ .bool) : isSubtype (.type "bool") (.type (tyS t)) = pure false := by cases t <;> first | exact absurd rfl h | exact absurd rfl h2 | (rw [isSubtype_type]; kernel_rfl)
theorem ty_str {t : Ty} (h : t ≠ .str) : isSubtype (.type "str") (.type (tyS t)) = pure false := by cases t <;> first | exact absurd rfl h | (rw [isSubtype_type]; kernel_rfl)
theorem ty_tuple {t : Ty} (h : t ≠ .tuple) : isSubtype (.type "tuple") (.type (tyS t)) = pure false := by cases t <;> first | exact absurd rfl h | (rw [isSubtype_type]; kernel_rfl)
theorem ty_list {t : Ty} (h : t ≠ .list) : isSubtype (.type "list") (.type (tyS t)) = pure false := by cases t <;> first | exact absurd rfl h | (rw [isSubtype_type]; kernel_rfl)
theorem ty_dict (t : Ty) : isSubtype (.type "dict") (.type (tyS t)) = pure false := by cases t <;> (rw [isSubtype_type]; kernel_rfl)
theorem ty_self (t : Ty) : isSubtype (.type (tyS t)) (.type (tyS t)) = pure true := by cases t <;> (rw [isSubtype_type]; kernel_rfl)
theorem ty_bool_int : isSubtype (.type "bool") (.type (tyS .int)) = pure true := by rw [isSubtype_type]; kernel_rfl
theorem ty_ne {n : String} {t : Ty} (h : n ≠ tyS t) : (Value.type n == Value.type (tyS t)) = false := by
  rw [beq_eq_false_iff_ne]; intro e; cases e; exact h rfl
theorem bEqF {a b : Ty} (h : a ≠ b) : (a == b) = false := by cases a <;> cases b <;> first | rfl | exact absurd rfl h
section
variable {X : Cx} {pos p : Pos}
theorem isi_at {pins : List (Addr × Obj)} {σ : St} {H : Hp} {s : Shared} {ρ : List Addr} {hd : Hd} {d : D} {v : V} {u : Value} {t : Ty} {b : Bool} {Q : Value → Shared → Prop} {E : Value → Shared → Prop} (I : Inv X pins σ H s) (rh : RH X.K ρ H hd) (rd : RD X.K ρ H d v) (r : RelV v u) (e : isTy hd t d = some b)
    (q : ∀ s', Inv X pins σ H s' → Q (.bool b) s') : wpAny (model X.prog X.w) X.A (call (.builtin "isinstance") [u, .type (tyS t)]) Q E s := by
  have q0 := q s I
  have q1 := q { s with toks := s.toks + 1 } (I.tok _)
  have yes : ∀ {n : String}, s.TypeIs u n → isSubtype (.type n) (.type (tyS t)) = pure true → Q (.bool true) s → wpAny (model X.prog X.w) X.A (call (.builtin "isinstance") [u, .type (tyS t)]) Q E s := fun h1 h2 h3 => call_isinstance (isinstance_true (ty_meta t) h2) ⟨h1, h3⟩
  cases d <;> simp only [RD] at rd <;> simp only [isTy] at e
  · subst rd; cases r; cases e
    exact call_isinstance (isinstance_false_none (by cases t <;> exact ty_ne (by decide)) (ty_meta t) (ty_none t)) q1
  · subst rd; cases r
    by_cases h1 : t = .int
    · subst h1; cases e; exact yes (n := "bool") rfl ty_bool_int q0
    · by_cases h2 : t = .bool
      · subst h2; cases e; exact yes (n := "bool") rfl (ty_self .bool) q0
      · rw [bEqF h1, bEqF h2] at e; cases e
        exact call_isinstance (isinstance_false_bool (by cases t <;> first | exact absurd rfl h1 | exact absurd rfl h2 | exact ty_ne (by decide)) (ty_meta t) (ty_bool h1 h2)) q1
  · subst rd; obtain ⟨tk, rfl⟩ := r
    by_cases h1 : t = .int
    · subst h1; cases e; exact yes (n := "int") rfl (ty_self .int) q0
    · rw [bEqF h1] at e; cases e
      exact call_isinstance (isinstance_false_int (by cases t <;> first | exact absurd rfl h1 | exact ty_ne (by decide)) (ty_meta t) (ty_int h1)) q1
  · subst rd; obtain ⟨tk, rfl⟩ := r
    by_cases h1 : t = .str
    · subst h1; cases e; exact yes (n := "str") rfl (ty_self .str) q0
    · rw [bEqF h1] at e; cases e
      exact call_isinstance (isinstance_false_str (by cases t <;> first | exact absurd rfl h1 | exact ty_ne (by decide)) (ty_meta t) (ty_str h1)) q1
  · obtain ⟨a, vs, rfl, ha, _⟩ := rd
    cases r
    obtain ⟨its, _, o, ho, hc, _⟩ := tup_at I.hok ha
    by_cases h1 : t = .tuple
    · subst h1; cases e; exact yes (n := "tuple") ⟨o, ho, hc⟩ (ty_self .tuple) q0
    · rw [bEqF h1] at e; cases e
      exact call_isinstance (isinstance_false_tuple (by cases t <;> first | exact absurd rfl h1 | exact ty_ne (by decide)) (ty_meta t) (ty_tuple h1)) ⟨⟨o, ho, hc⟩, q1⟩
  · rename_i n
    obtain ⟨a, ha, rfl⟩ := rd
    cases r
    cases c : hd[n]? with
    | none => rw [c] at e; cases e
    | some cell =>
      rw [c] at e
      cases cell with
      | lst l =>
        obtain ⟨vs, hv, _⟩ := rh.cel n _ a c ha
        obtain ⟨z, its, k, _, ho⟩ := I.hok a _ hv
        by_cases h1 : t = .list
        · subst h1; cases e; exact yes (n := "list") ⟨_, ho, rfl⟩ (ty_self .list) q0
        · simp only [bEqF h1] at e; cases e
          exact call_isinstance (isinstance_false_list (by cases t <;> first | exact absurd rfl h1 | exact ty_ne (by decide)) (ty_meta t) (ty_list h1)) ⟨⟨_, ho, rfl⟩, q1⟩
      | dct l =>
        obtain ⟨vs, hv, _, _⟩ := rh.cel n _ a c ha
        obtain ⟨_, _, _, _, o, _, _, ho, ex, _⟩ := I.hok a _ hv
        cases e
        exact call_isinstance (isinstance_false_dict (by cases t <;> exact ty_ne (by decide)) (ty_meta t) (ty_dict t)) ⟨⟨o, ho, ex.1⟩, q1⟩
  · obtain ⟨a, vs, rfl, ha, _⟩ := rd
    cases r
    obtain ⟨its, _, pl, _⟩ := I.list ha.sq
    obtain ⟨o, ho, hc, _⟩ := pl.isList
    by_cases h1 : t = .list
    · subst h1; cases e; exact yes (n := "list") ⟨o, ho, hc⟩ (ty_self .list) q0
    · simp only [bEqF h1] at e; cases e
      exact call_isinstance (isinstance_false_list (by cases t <;> first | exact absurd rfl h1 | exact ty_ne (by decide)) (ty_meta t) (ty_list h1)) ⟨⟨o, ho, hc⟩, q1⟩
noncomputable def rIsi (K : PySem.W.Frag) (t : Ty) : List V → Hp → VK → Prop := fun xs H Q => ∃ ρ hd d v b, xs = [v, .ty (tyS t)] ∧ RH K ρ H hd ∧ RD K ρ H d v ∧ isTy hd t d = some b ∧ Q (.bl b) H
theorem call_isi (t : Ty) : CallR X (.builtin "isinstance") (rIsi X.K t) := by
  intro pins s σ H xs us Q I r h
  obtain ⟨ρ, hd, d, v, b, rfl, rh, rd, e, q⟩ := h
  obtain ⟨u, u2, rfl, ru, ru2⟩ := Vals.two r
  cases (show u2 = Value.type (tyS t) from ru2)
  exact isi_at I rh rd ru e fun s' I' => ⟨.bl b, H, I', rfl, q⟩
theorem me_isTy {t : Ty} {a : Expr} {fa : EF} {p2 : Pos} {n : Str} (hg : Gl X "isinstance") (hm : X.mg "isinstance" = none) (hg2 : Gl X n) (hm2 : X.mg n = none) (hv : bootBuiltins n = some (.type (tyS t))) (ha : ME X a fa)
    (hs : starEach [a, .Name n p2] X.env = (false, eval a X.env) :: starEach [.Name n p2] X.env := by rfl) (hs2 : starEach [.Name n p2] X.env = (false, eval (.Name n p2) X.env) :: starEach [] X.env := by rfl) (hn : n ≠ "__name__" := by decide) (hd : (n == ("__debug__" : Str)) = false := by decide) :
    ME X (.Call (.Name "isinstance" p) [a, .Name n p2] [] pos) (fIsTy t fa) := by
  refine PE.imp (pe_callB (call_isi t) hg hm (by decide +kernel) (pa_cons ha (pa_cons (pe_bltn (v := .ty (tyS t)) hg2 hm2 hv rfl hn hd) pa_nil hs2) hs) (he := hs)) fun σ H Q zq80 => ?_
  obtain ⟨ρ, σd, hd, rs, pp⟩ := zq80
  refine ⟨ρ, σd, hd, rs, ?_⟩
  refine (Post.bind (R := rD X.K) pp).imp fun v H1 zq81 => ?_
  obtain ⟨ρ1, d, hd1, e1, rs1, rv, p1⟩ := zq81
  refine ?_
  cases c : isTy hd1 t d with
  | none => simp only [c] at p1; exact p1.elim
  | some b => simp only [c] at p1; exact ⟨ρ1, hd1, d, v, b, rfl, rs1.hp, rv, c, p1.here rs1 (by simp only [rD, RD])⟩
theorem op_add2 : OpR X (binaryOp .Add) (fun x y H Q => rI0 (fun i j => .int (i + j)) x y H Q ∨ rCatT X.K x y H Q) := op_add.or op_catT
theorem og_add {K : PySem.W.Frag} : Og K oAdd (fun x y H Q => rI0 (fun i j => .int (i + j)) x y H Q ∨ rCatT K x y H Q) := by
  intro ρ H σd hd σ d k v w Q rs rv rw' pp
  cases d <;> try exact pp.elim
  · cases k <;> try exact pp.elim
    simp only [RD] at rv rw'
    exact .inl ⟨_, _, rv, rw', pp.here rs (by simp only [rD, RD])⟩
  · rename_i l
    cases l with
    | nil => exact pp.elim
    | cons x xs =>
      cases k <;> try exact pp.elim
      rename_i ys
      simp only [oAdd] at pp
      split at pp
      · rename_i hz
        simp only [RD] at rv rw'
        obtain ⟨a, vs, rfl, ha, rvs⟩ := rv
        obtain ⟨b, ws, rfl, hb, rws⟩ := rw'
        refine .inr ⟨a, b, vs, ws, rfl, rfl, SqT.of ha, SqT.of hb, ?_, ?_, fun z => ?_, fun _ q hq => ?_⟩
        · intro z; subst z; have := rvs.length; simp at this
        · rw [← rvs.length, ← rws.length]; exact sz_line hz
        · subst z
          have hy : ys = [] := by have := rws.length; simpa using this
          subst hy
          exact pp.here rs (by simp only [rD, RD]; exact ⟨a, vs, rfl, ha, by simpa using rvs⟩)
        · have sm := same_upd (o := HO.tup (vs ++ ws)) hq
          exact pp.at (Ext.same sm) (rs.same sm) (by simp only [rD, RD]; exact ⟨q, _, rfl, upd_same, (RDs.append rvs rws).mono (Kp.same sm)⟩)
      · exact pp.elim
theorem mf_list {a : Expr} {la : LF} (hg : Gl X "list") (hm : X.mg "list" = none) (ha : MQ X a la) (hs : starEach [a] X.env = (false, eval a X.env) :: starEach [] X.env := by rfl) : MF X (.Call (.Name "list" p) [a] [] pos) la := by
  refine PE.imp (pe_callTy call_list_of hg hm (by decide +kernel) (pa_cons ha pa_nil hs) (he := hs)) fun σ H Q zq82 => ?_
  obtain ⟨ρ, σd, hd, rs, pp⟩ := zq82
  refine ⟨ρ, σd, hd, rs, ?_⟩
  cases e : la σd hd with
  | exc x h' => rw [e] at pp; exact pp
  | bad => rw [e] at pp; exact pp
  | ok l hd1 =>
    rw [e] at pp
    intro v H1 ρ1 e1 rs1 ⟨q, vs, hv, sq, rvs⟩
    subst hv
    exact ⟨q, vs, rfl, sq.imp id SqT.of, pp.mk e1 rs1 rvs⟩
theorem me_app {o e : Expr} {fo fe : EF} {apos cpos : Pos} (ho : ME X o fo) (he : ME X e fe) (hbase : attributeBase o "append" X.env (eval o X.env) = eval o X.env := by rfl)
    (hfew : ((backTo cpos (starEach [e] X.env)).all (fun x => !x.1) && (backToKw cpos (keywordEach [] X.env)).all (fun x => x.1.isSome)
      && decide (([e] : List Expr).length + ([] : List Keyword).length + (if ([] : List Keyword).isEmpty then 0 else 1) < 30)) = true := by rfl)
    (hline : (apos.endLine == cpos.line) = true := by rfl) (hs : starEach [e] X.env = (false, eval e X.env) :: starEach [] X.env := by rfl) :
    ME X (.Call (.Attribute o "append" apos) [e] [] cpos) (fApp fo fe) := by
  refine PE.imp (pe_bm PySem.F.plainAttrs_list PySem.F.slot_list_append PySem.F.type_list_append mt_append ho (pa_cons he pa_nil hs) hbase hfew hline hs) fun σ H Q zq83 => ?_
  obtain ⟨ρ, σd, hd, rs, pp⟩ := zq83
  refine ⟨ρ, σd, hd, rs, ?_⟩
  unfold fApp at pp
  refine (Post.bind (R := rD X.K) pp).imp fun v H1 zq84 => ?_
  obtain ⟨ρ1, d, hd1, e1, rs1, rv, p1⟩ := zq84
  refine ?_
  cases d <;> try exact p1.elim
  rename_i n
  simp only [rD, RD] at rv
  obtain ⟨a, ha, rfl⟩ := rv
  simp only at p1
  cases c1 : hd1[n]? with
  | none => rw [c1] at p1; exact p1.elim
  | some cell1 =>
    rw [c1] at p1
    cases cell1 with
    | dct l => exact p1.elim
    | lst l1 =>
      obtain ⟨vs, hv, _⟩ := rs1.hp.cel n _ a c1 ha
      simp only at p1
      refine ⟨.inl ⟨rfl, vs, SqL.of hv⟩, ρ1, σd, hd1, rs1, ?_⟩
      refine (Post.bind (R := rD X.K) p1).imp fun w H2 zq85 => ?_
      obtain ⟨ρ2, k, hd2, e2, rs2, rw', p2⟩ := zq85
      refine ?_
      simp only [oApp] at p2
      cases c : hd2[n]? with
      | none => rw [c] at p2; exact p2.elim
      | some cell =>
        rw [c] at p2
        cases cell with
        | dct l => exact p2.elim
        | lst l =>
          simp only at p2
          split at p2
          · rename_i hz
            have ha2 := e2.get ha
            obtain ⟨vs2, hv2, rvs2⟩ := rs2.hp.cel n _ a c ha2
            refine ⟨a, vs2, w, rfl, rfl, hv2, ?_, ?_⟩
            · rw [← rvs2.length]; exact Nat.lt_of_lt_of_le hz (by rw [sizeLine_eq]; decide)
            · have hn : n < hd2.length := (List.getElem?_eq_some_iff.mp c).1
              have rh := rs2.hp.write ha2 hn (RDs.append rvs2 (RDs.cons rw' RDs.nil))
              have ex : Ext ρ2 H2 ρ2 (upd H2 a (.lst (vs2 ++ [w]))) := Ext.write (List.mem_of_getElem? ha2)
              exact p2.at ex (rs2.ext ex rh) (by simp only [rD, RD])
          · exact p2.elim
end
end Fm
set_option Elab.async false
set_option linter.all false
set_option maxRecDepth 100000
namespace Fm
open PySem PySem.Spec L2
open AutoSeq1 (wpAny_loadPart')
open PyProof.Rows (Call_)
theorem tyNe {a b : String} (h : Value.type a = Value.type b) (n : a ≠ b) : False := by injection h with h; exact n h
theorem meets_enumerate_newT (l : Addr) (items : Array Value) (n : Nat) (dct : Option Addr) (sl : Array (Option Value)) :
    Meets (Builtin.«enumerate.__new__» ⟨[.type "enumerate", .ref l], []⟩) (fun _ R s => s.heap.get? l = some { cls := .type "tuple", dict := dct, data := .seq items n, slots := sl } ∧
      R (.ok (.ret (.ref (s.heap.push { cls := .type "tuple_iterator", data := .fields #[.ref l, .int 0 0] }).objs.size)))
        { s with heap := (s.heap.push { cls := .type "tuple_iterator", data := .fields #[.ref l, .int 0 0] }).push { cls := .type "enumerate", data := .fields #[.none, .bool false, .ref s.heap.objs.size, rawInt 0, .none, .none] } }) :=
  .of_wp fun prog w A R s h => by
    obtain ⟨hp, g, d, tk, os⟩ := s; obtain ⟨hl, h⟩ := h
    have hsub := sub_enumerate
    have hL : Heap.IsTuple (Shared.heap ⟨hp, g, d, tk, os⟩) l items := ⟨_, hl, rfl, n, rfl⟩
    wp_walk using wpAny_loadPart' hl
    refine wpAny_stack_any fun st => wpAny_pure ?_
    split
    · rename_i c _ _ _ _ _
      cases (c == Value.type "enumerate")
      · wp_walk using wpAny_loadPart' hl, wpAny_pyIter_tuple hL
        exact ⟨_, rfl, h⟩
      · wp_walk using wpAny_loadPart' hl, wpAny_pyIter_tuple hL
        exact ⟨_, rfl, h⟩
    · wp_walk using wpAny_loadPart' hl, wpAny_pyIter_tuple hL
      exact ⟨_, rfl, h⟩
section
variable {prog : Program} {w : World} {A : Around} {E : Value → Shared → Prop} {s : Shared}
theorem call_enumerate_tuple {l : Addr} {items : Array Value} {Q : Value → Shared → Prop} (hL : s.heap.IsTuple l items)
    (h : ∀ h', IsEnum h' (s.heap.objs.size + 1) s.heap.objs.size 0 .none → h'.IsTupleIter s.heap.objs.size l 0 → h'.objs.size = s.heap.objs.size + 2 →
      (∀ b o, s.heap.get? b = some o → h'.get? b = some o) → Q (.ref (s.heap.objs.size + 1)) { s with heap := h' }) :
    wpAny (model prog w) A (call (.type "enumerate") [.ref l]) Q E s := by
  obtain ⟨⟨c, dct, dt, sl⟩, hl, hc, n, hd⟩ := hL
  replace hc : c = .type "tuple" := hc
  replace hd : dt = .seq items n := hd
  subst hc hd
  refine callType_new F.called_enumerate (by decide) (F.typeCall_enumerate_1 _) (F.newCall_enumerate_1 _) (fun obj => F.args_object_init_2 obj _) F.entry_enumerate_new
    (meets_enumerate_newT l items n dct sl) ⟨hl, ?_⟩
  have hz : (s.heap.push { cls := .type "tuple_iterator", data := .fields #[.ref l, .int 0 0] }).objs.size = s.heap.objs.size + 1 := Heap.size_push ..
  show _ ∧ _
  rw [hz]
  have he : IsEnum ((s.heap.push { cls := .type "tuple_iterator", data := .fields #[.ref l, .int 0 0] }).push
      { cls := .type "enumerate", data := .fields #[.none, .bool false, .ref s.heap.objs.size, rawInt 0, .none, .none] }) (s.heap.objs.size + 1) s.heap.objs.size 0 .none := by
    have := Heap.get?_push_size (s.heap.push { cls := .type "tuple_iterator", data := .fields #[.ref l, .int 0 0] })
      (o := { cls := .type "enumerate", data := .fields #[.none, .bool false, .ref s.heap.objs.size, rawInt 0, .none, .none] }) rfl
    rw [hz] at this; exact this
  refine ⟨⟨_, he, rfl⟩, h _ he ⟨_, Heap.get?_push_of_some _ (Heap.get?_push_size _ rfl), rfl, rfl⟩ (by rw [Heap.size_push, hz]) fun b o x => Heap.get?_push_of_some _ (Heap.get?_push_of_some _ x)⟩
theorem nextOf_tuple_item {it l : Addr} {i : Nat} {items : Array Value} {x : Value} {Q : Value → Shared → Prop} (hit : s.heap.IsTupleIter it l i)
    (hl : s.heap.IsTuple l items) (hx : items[i]? = some x)
    (hQ : ∀ h', h'.IsTupleIter it l (i + 1) → Heap.SameBut it s.heap h' → Q x { s with heap := h' }) :
    wpAny (model prog w) A (Builtin.SmallTypes.nextOf (.ref it)) Q E s := by
  obtain ⟨o, ho, hc, hd⟩ := id hit
  obtain ⟨ol, hol, _, nl, hdl⟩ := hl
  unfold Builtin.SmallTypes.nextOf
  refine wpAny_bind (wpAny_callSpecial?_slot (name := Str.ofString "__next__") hit.typeIs F.slot_tuple_iterator_next
    (wpAny_call_entry F.slot_tuple_iterator_next hit.typeIs F.entry_tuple_iterator_next ?_ (F.args_tuple_iterator_next_1 _)))
  show wpAny _ _ (field (.ref it) 0 >>= _) _ _ s
  refine wpAny_bind (wpAny_field ho hd (x := .ref l) rfl ?_)
  show wpAny _ _ (if (Value.ref l == Value.none) = true then _ else _) _ _ s
  rw [if_neg (show ¬ ((Value.ref l == Value.none) = true) from Bool.false_ne_true)]
  show wpAny _ _ (field (.ref it) 1 >>= _) _ _ s
  refine wpAny_bind (wpAny_field ho hd (x := .int i 0) rfl ?_)
  show wpAny _ _ (seqItems? (.ref l) >>= _) _ _ s
  refine wpAny_bind (wpAny_seqItems hol hdl ?_)
  simp only [Int.toNat_natCast, hx]
  refine wpAny_bind (wpAny_setField ho hd (by simp) (wpAny_pure ⟨x, rfl, wpAny_pure (hQ _ ?_ (Heap.SameBut.update ..))⟩))
  exact ⟨_, Heap.get?_update_self _ ho (Obj.isFreed_of_fields (Obj.data_mapFields hd _)), (Obj.cls_mapFields ..).trans hc, by
    rw [Obj.data_mapFields hd]; simp [rawInt]⟩
theorem nextOf_tuple_end {it l : Addr} {i : Nat} {items : Array Value} {Q : Value → Shared → Prop} (hh : A.handled = none)
    (hit : s.heap.IsTupleIter it l i) (hl : s.heap.IsTuple l items) (hx : items[i]? = none)
    (hE : ∀ h' e, Heap.ExtBut it s.heap h' → (∃ o, h'.get? e = some o ∧ o.cls = .type "StopIteration") → E (.ref e) { s with heap := h' }) :
    wpAny (model prog w) A (Builtin.SmallTypes.nextOf (.ref it)) Q E s := by
  obtain ⟨o, ho, hc, hd⟩ := id hit
  obtain ⟨ol, hol, _, nl, hdl⟩ := hl
  unfold Builtin.SmallTypes.nextOf
  refine wpAny_bind (wpAny_callSpecial?_slot (name := Str.ofString "__next__") hit.typeIs F.slot_tuple_iterator_next
    (wpAny_call_entry F.slot_tuple_iterator_next hit.typeIs F.entry_tuple_iterator_next ?_ (F.args_tuple_iterator_next_1 _)))
  show wpAny _ _ (field (.ref it) 0 >>= _) _ _ s
  refine wpAny_bind (wpAny_field ho hd (x := .ref l) rfl ?_)
  show wpAny _ _ (if (Value.ref l == Value.none) = true then _ else _) _ _ s
  rw [if_neg (show ¬ ((Value.ref l == Value.none) = true) from Bool.false_ne_true)]
  show wpAny _ _ (field (.ref it) 1 >>= _) _ _ s
  refine wpAny_bind (wpAny_field ho hd (x := .int i 0) rfl ?_)
  show wpAny _ _ (seqItems? (.ref l) >>= _) _ _ s
  refine wpAny_bind (wpAny_seqItems hol hdl ?_)
  simp only [Int.toNat_natCast, hx]
  refine wpAny_bind (wpAny_rule (wpAny_bind (wpAny_setField ho hd (by simp) ?_)))
  show wpAny _ _ (newExc (.type "StopIteration") [] >>= _) _ _ _
  refine wpAny_bind ?_
  simp only [newExc, newTuple]
  refine wpAny_bind (wpAny_newObj_type ?_ (by size_fits))
  refine wpAny_bind (m := firstArgMember _ _) (wpAny_of_eq (a := Value.none) (by first | rfl | (simp only [firstArgMember]; rfl)) ?_)
  refine wpAny_newObj_type ?_ (by size_fits)
  simp only [raiseNew]
  refine wpAny_bind (wpAny_handled ?_)
  first | rw [show A.in1.handled = none from hh] | rw [hh]
  refine wpAny_bind (wpAny_pure (wpAny_throw ?_))
  exact hE _ _ (((Heap.SameBut.update ..).extBut.push _).push _) ⟨_, Heap.get?_push_size _ rfl, rfl⟩
end
theorem draws_tuple {prog : Program} {w : World} {A : Around} (hh : A.handled = none) (it l : Addr) (hne : l ≠ it) (items : Array Value) :
    Draws prog w A it [it, l] items.size (fun i v => items[i]? = some v) (fun i h => h.IsTupleIter it l i ∧ h.IsTuple l items) where
  live := fun _ _ st => let ⟨o, ho, _⟩ := st.1; ⟨o, ho⟩
  frame := fun _ _ _ st hk => ⟨st.1.at fun o e => hk it (by simp) o e, let ⟨o, ho, r⟩ := st.2; ⟨o, hk l (by simp) o ho, r⟩⟩
  item := fun i s Q E hi st hQ => by
    have hx : items[i]? = some items[i] := by simp [hi]
    refine nextOf_tuple_item st.1 st.2 hx fun h' hit' hs' => ?_
    refine hQ _ h' s.toks hx ⟨hit', ?_⟩ hs'
    obtain ⟨o, ho, r⟩ := st.2
    exact ⟨o, (hs'.2 l hne).trans ho, r⟩
  done := fun s Q E st hE => nextOf_tuple_end hh st.1 st.2 (by simp) hE
noncomputable def Ite (K : PySem.W.Frag) (a : Addr) : It :=
  ⟨fun i H => ∃ xs x, SqT K H a xs ∧ xs[i]? = some x, fun i H x H' => ∃ q v, x = .ref q ∧ H q = none ∧ H' = upd H q (.tup [.int (i : Nat), v]) ∧ ∀ xs, SqT K H a xs → xs[i]? = some v, fun i H => ∃ xs, SqT K H a xs ∧ xs.length = i⟩
theorem turn_enum {P : Program} {w : World} {K : PySem.W.Frag} {elts : List Expr} {k : Nat} {pos : Pos} (e it a : Addr) : Turn P w K (.Tuple elts k pos) (Ite K a) [e, it] e (fun i h => (∃ old, IsEnum h e it (i : Nat) old) ∧ h.IsTupleIter it a i) where
  mem := by simp
  obj := fun i h st b hb => by
    obtain ⟨⟨old, he⟩, o, ho, hc, hd⟩ := st
    rcases List.mem_cons.mp hb with rfl | hb
    · exact ⟨_, he, fun v z => by
        have z' : Data.fields _ = Data.cell v := z
        cases z'⟩
    · have : b = it := by simpa using hb
      subst this
      exact ⟨o, ho, fun v z => by rw [hd] at z; cases z⟩
  keep := fun i h h' st kk => by
    obtain ⟨⟨old, he⟩, st⟩ := st
    exact ⟨⟨old, kk e (by simp) _ he⟩, st.at fun o x => kk it (by simp) o x⟩
  item := by
    intro X hP hw hK hc i pins s σ H E I hf st hg
    subst hP hw hK
    obtain ⟨⟨old, he⟩, hit⟩ := st
    obtain ⟨xs, x, hq, hx⟩ := hg
    obtain ⟨its, rv, p, hz⟩ := I.tuple hq
    have ht : s.heap.IsTuple a its.toArray := p
    obtain ⟨oi, hoi, hci, hdi⟩ := id hit
    obtain ⟨oa, hoa, hca, na, hda⟩ := id ht
    have hei : e ≠ it := fun z => by
      subst z
      have he' : s.heap.get? e = _ := he
      rw [hoi] at he'; cases he'; exact tyNe hci (by decide)
    have hea : e ≠ a := fun z => by
      subst z
      have he' : s.heap.get? e = _ := he
      rw [hoa] at he'; cases he'; exact tyNe hca (by decide)
    have hai : a ≠ it := fun z => by
      subst z
      rw [hoi] at hoa; cases hoa; rw [hci] at hca; exact tyNe hca (by decide)
    obtain ⟨e0, e1, e2, e3, e4, e5⟩ := hf e (by simp)
    obtain ⟨f0, f1, f2, f3, f4, f5⟩ := hf it (by simp)
    have hlt : i < its.toArray.size := by
      have := (List.getElem?_eq_some_iff.mp hx).1
      have hl := rv.length
      simp; omega
    refine wpAny_pyNext_enum_itemD (draws_tuple (prog := X.prog) (w := X.w) (A := X.A.in1) (I.ok.hd hc) it a hai its.toArray) he ⟨hit, ht⟩ hlt hei (by simp; exact ⟨hei, hea⟩) fun y h' tk hy heo hst' htup hsz hk => ?_
    refine ⟨_, rfl, wpAny_letOwnedTupleGo_enum heo fun h2 he2 hs2 => ?_⟩
    replace hs2 : Heap.SameBut e h' h2 := hs2
    obtain ⟨u, hu, ru⟩ := rv.get hx
    have hyu : y = u := by
      have : its.toArray[i]? = some u := by simpa using hu
      rw [hy] at this; exact Option.some.inj this
    subst hyu
    have elt : e < s.heap.objs.size := Heap.lt_size he
    have ilt : it < s.heap.objs.size := Heap.lt_size hoi
    have hN : H s.heap.objs.size = none := I.hok.fresh (Nat.le_refl _)
    have keep : ∀ b o, b ≠ e → b ≠ it → s.heap.get? b = some o → h2.get? b = some o := fun b o b1 b2 q => (hs2.2 b b1).trans (hk b o b1 b2 q)
    have htup2 : h2.get? s.heap.objs.size = some { cls := .type "tuple", data := .seq #[.int i tk, y] } := (hs2.2 _ (Nat.ne_of_gt elt)).trans htup
    have nch : ∀ b, b ∉ ([e, it] : List Addr) → b ≠ e ∧ b ≠ it := fun b hb => by simpa using hb
    refine ⟨.ref s.heap.objs.size, upd H s.heap.objs.size (.tup [.int (i : Nat), x]), ?_, rfl, ⟨_, x, rfl, hN, rfl, fun ys hys => by rw [I.tuple_inj hys hq]; exact hx⟩, ⟨⟨_, by simpa using he2⟩, hst'.1.extBut hs2.extBut (Ne.symm hei)⟩, fun b hb => ?_⟩
    · suffices I2 : L2.Inv X pins σ (upd H s.heap.objs.size (.tup [.int (i : Nat), x])) { s with heap := h2, gens := s.gens, drawn := s.drawn, toks := tk + 1 } from I2
      refine I.step (g' := s.gens) (d' := s.drawn) (t' := tk + 1) (ch := [e, it]) (fun b hb => ?_) (fun b o _ _ hb q _ => keep b o (nch b hb).1 (nch b hb).2 q) (fun b o _ _ hb q _ => ⟨o.slots, keep b o (nch b hb).1 (nch b hb).2 q⟩) (fun b o _ q n => ?_) (fun b o hb q => ⟨o, keep b o (nch b hb).1 (nch b hb).2 q⟩)
        (fun b ys q => ?_) (fun b o u q => ?_) (fun b ps q => ⟨#[], ?_⟩) (fun m hm => ?_) (fun b u q => ?_) I.bare
      · rcases List.mem_cons.mp hb with rfl | hb
        · exact ⟨e3, e1, e4, e5⟩
        · have : b = it := by simpa using hb
          subst this
          exact ⟨f3, f1, f4, f5⟩
      · rw [upd_ne (Nat.ne_of_lt (Heap.lt_size q))]; exact n
      · rw [upd_ne (ne_of_none q hN)]; exact q
      · rw [upd_ne (ne_of_none q hN)]; exact q
      · rw [upd_ne (ne_of_none q hN), q]; simp
      · obtain ⟨o, es, ep, ho, r⟩ := hm
        exact ⟨o, es, ep, keep _ o (Ne.symm e1) (Ne.symm f1) ho, r⟩
      · by_cases hb : b = s.heap.objs.size
        · subst hb
          rw [upd_same] at q
          cases q
          exact ⟨by show 2 ≤ sizeLine; rw [sizeLine_eq]; decide, [.int i tk, y], .cons ⟨tk, rfl⟩ (.cons ru .nil), _, htup2, rfl, _, rfl⟩
        · rw [upd_ne hb] at q
          have ne1 : ∀ c v, H c = some v → c ≠ e := fun c v z w => by rw [w, e0] at z; cases z
          have ne2 : ∀ c v, H c = some v → c ≠ it := fun c v z w => by rw [w, f0] at z; cases z
          refine (I.hok b u q).stay (fun c v hc' z => ?_) (fun c z => by rw [upd_ne (ne_of_none z hN)]; exact z) fun c ys z => by rw [upd_ne (ne_of_none z hN)]; exact z
          rcases hc' with w | w
          · subst w; exact keep c v (ne1 c _ q) (ne2 c _ q) z
          · exact keep c v (ne1 c _ w) (ne2 c _ w) z
    · have : b ≠ s.heap.objs.size := by
        rcases List.mem_cons.mp hb with rfl | hb
        · exact Nat.ne_of_lt elt
        · have : b = it := by simpa using hb
          subst this
          exact Nat.ne_of_lt ilt
      rw [upd_ne this]
      exact (hf b hb).1
  done := by
    intro X hP hw hK hc i pins s σ H E I hf st hg
    subst hP hw hK
    obtain ⟨⟨old, he⟩, hit⟩ := st
    obtain ⟨xs, hq, hx⟩ := hg
    obtain ⟨its, rv, p, hz⟩ := I.tuple hq
    have ht : s.heap.IsTuple a its.toArray := p
    obtain ⟨oi, hoi, hci, hdi⟩ := id hit
    obtain ⟨oa, hoa, hca, na, hda⟩ := id ht
    have hai : a ≠ it := fun z => by
      subst z
      rw [hoi] at hoa; cases hoa; rw [hci] at hca; exact tyNe hca (by decide)
    obtain ⟨f0, f1, f2, f3, f4, f5⟩ := hf it (by simp)
    have hsz : its.toArray.size = i := by have := rv.length; simp; omega
    refine wpAny_pyNext_enum_endD (draws_tuple (prog := X.prog) (w := X.w) (A := X.A.in1) (I.ok.hd hc) it a hai its.toArray) he ⟨by rw [hsz]; exact hit, ht⟩ fun h' hx' => ⟨rfl, I.turned (t' := s.toks) (fun b o hb e => hx' b o hb e) f0 f1 f3 f4 f5⟩
  self := fun _ _ _ _ _ st h => by
    obtain ⟨⟨old, he⟩, _⟩ := st
    exact wpAny_pyIter_enum he h
section
variable {X : Cx} {pos p tp : Pos} {elts : List Expr} {tk : Nat}
noncomputable def iEn (K : PySem.W.Frag) (ta : TE) : TI := fun σ H R => ta σ H fun x H1 => ∃ a xs, x = .ref a ∧ SqT K H1 a xs ∧ (xs.length ≤ sizeLine → R (Ite K a) H1)
theorem pi_enum {a : Expr} {ta : TE} (hg : Gl X "enumerate") (hm : X.mg "enumerate" = none) (ha : PE X a ta) (hs : starEach [a] X.env = [(false, eval a X.env)] := by rfl) : PI X (.Tuple elts tk tp) (.Call (.Name "enumerate" p) [a] [] pos) (iEn X.K ta) := by
  intro pins s σ H R I h
  have hpa := pa_cons ha pa_nil hs
  refine Call_ (ld_blt I hg hm PyProof.Rows.boot_enumerate (PyProof.Rows.callWith_type1 (thn (hpa pos pins s σ H (fun vs H1 => ∃ a xs, vs = [.ref a] ∧ SqT X.K H1 a xs ∧ (xs.length ≤ sizeLine → R (Ite X.K a) H1)) I ?_) fun us s1 ⟨vs, H1, I1, r1, q1⟩ => ?_) hs rfl))
  · show ta σ H fun x H1 => _
    have key : ∀ (x : V) (H1 : Hp), (∃ a xs, x = .ref a ∧ SqT X.K H1 a xs ∧ (xs.length ≤ sizeLine → R (Ite X.K a) H1)) = (∃ a xs, [x] = [.ref a] ∧ SqT X.K H1 a xs ∧ (xs.length ≤ sizeLine → R (Ite X.K a) H1)) := fun x H1 => by simp
    have h' : ta σ H fun x H1 => ∃ a xs, x = .ref a ∧ SqT X.K H1 a xs ∧ (xs.length ≤ sizeLine → R (Ite X.K a) H1) := h
    simp only [key] at h'
    exact h'
  · obtain ⟨a, xs, e, hq, q⟩ := q1
    subst e
    obtain ⟨u, rfl, ru⟩ := Vals.one r1
    cases (show u = Value.ref a from ru)
    obtain ⟨its, rv, pt, hz⟩ := I1.tuple hq
    refine call_enumerate_tuple (show s1.heap.IsTuple a its.toArray from pt) fun h' he hit hsz hk => ?_
    refine wpAny_pyIter_enum (s := { s1 with heap := h' }) he ?_
    have I2 : Inv X pins σ H1 { s1 with heap := h' } := I1.kept (t' := s1.toks) hk
    refine ⟨s1.heap.objs.size + 1, [s1.heap.objs.size + 1, s1.heap.objs.size], _, _, H1, rfl, I2, turn_enum (s1.heap.objs.size + 1) s1.heap.objs.size a, ⟨⟨_, by simpa using he⟩, hit⟩, fun b hb => ?_, q hz⟩
    have hb' : s1.heap.objs.size ≤ b := by
      rcases List.mem_cons.mp hb with e | hb
      · rw [e]; exact Nat.le_succ _
      · have : b = s1.heap.objs.size := by simpa using hb
        rw [this]; exact Nat.le_refl _
    exact I1.fpOk hb' (I1.hok.fresh hb')
theorem walk_enum {K : PySem.W.Frag} {ρ : List Addr} {H : Hp} {hd : Hd} {q : Addr} {l : List D} {vs : List V} (r : RH K ρ H hd) (hq : H q = some (.tup vs)) (rv : RDs K ρ H l vs) (hz : vs.length ≤ sizeLine) :
    Walk K ρ H (Ite K q) ((List.range l.length).zip l |>.map fun p => .tup [.int (p.1 : Nat), p.2]) none where
  go := fun ρ' H' hd' i d ex rh _ hi => by
    have k := r.kp ex
    obtain ⟨hil, hi2⟩ := List.getElem?_eq_some_iff.mp hi
    have hl : i < l.length := by simpa using hil
    have hd : d = .tup [.int (i : Nat), l[i]] := by rw [← hi2]; simp
    subst hd
    obtain ⟨v, hv, rd⟩ := (rv.mono k).get (i := i) (d := l[i]) (by simp [hl])
    have sq : SqT K H' q vs := SqT.of (k.tup q vs hq)
    refine ⟨⟨vs, v, sq, hv⟩, fun x H2 y => ?_⟩
    obtain ⟨q2, v2, rfl, hn, rfl, y⟩ := y
    have := y vs sq
    rw [hv] at this
    cases this
    have sm := same_upd (o := HO.tup [.int (i : Nat), v]) hn
    refine ⟨sm, ?_⟩
    simp only [RD]
    exact ⟨q2, _, rfl, upd_same, RDs.cons (by simp only [RD]) (RDs.cons (rd.mono (Kp.same sm)) RDs.nil)⟩
  stop := fun ρ' H' hd' ex rh _ => ⟨vs, SqT.of ((r.kp ex).tup q vs hq), by rw [← rv.length]; simp⟩
  sz := by
    have := rv.length
    simp; omega
theorem mi_enum {a : Expr} {f : EF} (hg : Gl X "enumerate") (hm : X.mg "enumerate" = none) (ha : ME X a f) (hs : starEach [a] X.env = [(false, eval a X.env)] := by rfl) : MI X (.Tuple elts tk tp) (.Call (.Name "enumerate" p) [a] [] pos) (iEnum f) := by
  refine PI.imp (pi_enum hg hm ha hs) fun σ H R zq86 => ?_
  obtain ⟨ρ, σd, hd, rs, pp⟩ := zq86
  refine ⟨ρ, σd, hd, rs, ?_⟩
  unfold iEnum at pp
  cases e : f σd hd with
  | exc x h1 => rw [e] at pp; exact pp
  | bad => rw [e] at pp; exact pp
  | ok d hd1 =>
    rw [e] at pp
    simp only [bind_ok] at pp
    intro v H1 ρ1 ex1 rs1 rv
    cases d <;> try exact pp.elim
    rename_i l
    simp only [rD, RD] at rv
    obtain ⟨q, vs, rfl, hq, rvs⟩ := rv
    exact ⟨q, vs, rfl, SqT.of hq, fun hz => pp _ H1 ρ1 ex1 rs1 (walk_enum rs1.hp hq rvs hz)⟩
end
end Fm
set_option Elab.async false
set_option linter.all false
set_option maxRecDepth 100000
namespace Fm
open PySem PySem.Spec L2 PySem.W PyProof.Rows
section
variable {prog : Program} {w : World} {A : Around} {E : Value → Shared → Prop} {s : Shared}
theorem sort_short {a : Addr} {vs : List Value} {n : Nat} {P : PySem.Fin → Shared → Prop} (ho : s.heap.get? a = some (seqObj "list" vs.toArray n)) (h2 : vs.length < 2)
    (h : P (.done (.ret .none)) { s with heap := sortedHeap s.heap a vs vs.toArray }) : wpAny (model prog w) A (Builtin.«list.sort» ⟨[.ref a], []⟩) P E s := by
  rw [list_sort_plain]
  have ha : a < s.heap.objs.size := Heap.lt_size ho
  refine wpAny_bind (listItems_at ho rfl ?_)
  refine wpAny_bind (listUpdate_at ho rfl ?_)
  obtain ⟨e1, ho1⟩ : ∃ e1, (s.heap.update a (Obj.mapSeq fun _ => #[])).get? a = some (seqObj "list" #[] e1) := ⟨_, get?_update_seq ho (fun _ => #[])⟩
  refine wpAny_bind (seqEpoch_at ho1 rfl ?_)
  refine wpAny_bind (wpAny_newTuple ?_)
  refine wpAny_bind (wpAny_newList ?_)
  refine wpAny_holding ?_
  have ho6 : (((s.heap.update a (Obj.mapSeq fun _ => #[])).push (seqObj "tuple" vs.toArray 0)).push (seqObj "list" #[] 0)).get? a = some (seqObj "list" #[] e1) := by
    rw [Heap.get?_push_ne _ _ _ (by rw [size_push', Heap.size_update]; exact Nat.ne_of_lt (Nat.lt_succ_of_lt ha)), Heap.get?_push_ne _ _ _ (by rw [Heap.size_update]; exact Nat.ne_of_lt ha)]
    exact ho1
  show wpAny (model prog w) A _ P E { s with heap := ((s.heap.update a (Obj.mapSeq fun _ => #[])).push (seqObj "tuple" vs.toArray 0)).push (seqObj "list" #[] 0) }
  dsimp only
  have hsz : vs.toArray.size = vs.length := by simp
  have h2' : vs.toArray.size < 2 := by rw [hsz]; exact h2
  rw [if_pos h2', if_pos h2']
  refine wpAny_bind (wpAny_pure ?_)
  rw [StateT.run_pure]
  refine wpAny_bind (wpAny_pure ?_)
  dsimp only
  refine wpAny_bind (seqEpoch_at ho6 rfl ?_)
  refine wpAny_bind (listUpdate_at ho6 rfl ?_ (hsz2 := by rw [Array.size_map]; show (pairsOf vs).size ≤ _; rw [pairsOf_size, sizeLine_eq]; omega))
  simp only [bne_self_eq_false, Bool.false_eq_true, if_false]
  have e : (arrOf (SortSt.mk' general' (vs.toArray.zip vs.toArray) #[] 7 none)).map (·.2) = vs.toArray := by
    show (vs.toArray.zip vs.toArray).map (·.2) = vs.toArray
    apply Array.ext
    · simp
    · intro i h1 h2
      simp
  refine wpAny_pure ?_
  have h' := h
  unfold sortedHeap at h'
  rw [e]
  exact h'
theorem lex_wp {Q : Bool → Shared → Prop} : ∀ (ns ms : List Int) {xs ys : List Value} (i : Nat), IntsAre xs ns → IntsAre ys ms → Q (Fm.lexLt ns ms) s → KatLex prog w A true (decide (xs.length < ys.length)) Q (xs.zip ys) i s := by
  intro ns
  induction ns with
  | nil =>
    intro ms xs ys i hx hy h
    cases hx
    cases ms with
    | nil => cases hy; exact h
    | cons m ms =>
      cases hy
      have h' : Q true s := h
      exact h'
  | cons n ns ih =>
    intro ms xs ys i hx hy h
    cases hx with
    | cons _ t r =>
      cases ms with
      | nil =>
        cases hy
        have h' : Q false s := h
        exact h'
      | cons m ms =>
        cases hy with
        | cons _ t' r' =>
          rename_i xs ys
          refine kat_cons (SeqAt.EqAt.int_int n t m t' prog w _ _ ?_)
          by_cases e : n = m
          · subst e
            rw [show (n == n) = true by simp]
            refine kat_yes ?_
            have h' : Q (Fm.lexLt ns ms) s := by simpa [Fm.lexLt] using h
            have := ih ms (i + 1) r r' h'
            have e2 : decide ((Value.int n t :: xs).length < (Value.int n t' :: ys).length) = decide (xs.length < ys.length) := by simp
            rw [e2]
            exact this
          · rw [show (n == m) = false by simpa using e]
            refine kat_no ?_
            have h' : Q (decide (n < m)) s := by simpa [Fm.lexLt, e] using h
            cases i with
            | zero => exact oneLt_int h'
            | succ i =>
              have : (true && (i + 1 == 0)) = false := by simp
              rw [this]
              exact kat_one _ _ (lt_int (by first | exact ⟨_, rfl, h'⟩ | exact h'))
end
theorem ns_one {h : Heap} {a : Addr} {m m' : Str → Option Value} (x : h.Ns a m) (y : h.Ns a m') : m = m' := by
  obtain ⟨o, es, ep, ho, hd, _, r⟩ := x
  obtain ⟨o', es', ep', ho', hd', _, r'⟩ := y
  rw [ho] at ho'; cases ho'
  rw [hd] at hd'; cases hd'
  funext z
  rw [← r z, ← r' z]
inductive RowsV (H : Hp) : List V → List (List Int) → Prop
  | nil : RowsV H [] []
  | cons {a : Addr} {r : List Int} {vs : List V} {rs : List (List Int)} : H a = some (.tup (r.map V.int)) → RowsV H vs rs → RowsV H (.ref a :: vs) (r :: rs)
theorem RowsV.get {H : Hp} : ∀ {vs : List V} {rs : List (List Int)} {i : Nat} {v : V}, RowsV H vs rs → vs[i]? = some v → ∃ a, v = .ref a ∧ H a = some (.tup ((rs.getD i []).map V.int))
  | _, _, _, _, .nil, e => by simp at e
  | _, _, 0, _, .cons h t, e => by simp at e; subst e; exact ⟨_, rfl, h⟩
  | _, _, i + 1, v, .cons h t, e => by
    obtain ⟨a, h1, h2⟩ := RowsV.get (i := i) (v := v) t (by simpa using e)
    exact ⟨a, h1, by simpa using h2⟩
theorem RowsV.length {H : Hp} : ∀ {vs : List V} {rs : List (List Int)}, RowsV H vs rs → vs.length = rs.length
  | _, _, .nil => rfl
  | _, _, .cons _ t => by simp [RowsV.length t]
section
variable {X : Cx} {pos p : Pos}
theorem rel_int {i : Int} {u : Value} (r : RelV (.int i) u) : ∃ t, u = .int i t := r
end
end Fm
set_option Elab.async false
set_option linter.all false
set_option maxRecDepth 100000
namespace Fm
open PySem PySem.Spec L2
section
variable {X : Cx}
theorem mv (i : Nat) {x : Str} {pos : Pos} (hN : X.N[i]? = some x := by rfl) (hv : Vis X.env.scope x := by first | exact Or.inl rfl | exact Or.inr (Or.inl rfl) | exact Or.inr (Or.inr rfl)) (hd : (x == ("__debug__" : Str)) = false := by decide)
    (hcd : (x == ("__classdict__" : Str)) = false := by decide) : ME X (.Name x pos) (fVar i) := me_var hN hv hd hcd
end
theorem hu24 {k : Nat} {A : Around} (r : Room k A) : A.units + 24 < cLine := by have := r.un; omega
noncomputable def FreeIn (X : Cx) : List (Str × NameKind) → Prop
  | [] => True
  | y :: r => (y.2 = .free → X.env.kindOf y.1 = some .cell ∨ X.env.kindOf y.1 = some .free) ∧ FreeIn X r
noncomputable def CapIn (X : Cx) (scope : Scope) : List Str → List Nat → Prop
  | [], [] => True
  | x :: xs, i :: is => (X.N[i]? = some x ∧ scope.names.lookup x = some .free) ∧ CapIn X scope xs is
  | _, _ => False
theorem FreeIn.get {X : Cx} : ∀ {l : List (Str × NameKind)}, FreeIn X l → ∀ y ∈ l, y.2 = .free → X.env.kindOf y.1 = some .cell ∨ X.env.kindOf y.1 = some .free
  | [], _, y, hy => by simp at hy
  | z :: r, h, y, hy => by
    rcases List.mem_cons.mp hy with rfl | hy
    · exact h.1
    · exact FreeIn.get h.2 y hy
theorem CapIn.get {X : Cx} {scope : Scope} : ∀ {capn : List Str} {caps : List Nat}, CapIn X scope capn caps → (∀ (j : Nat) x, capn[j]? = some x → ∃ i, caps[j]? = some i ∧ X.N[i]? = some x ∧ scope.names.lookup x = some .free) ∧ capn.length = caps.length
  | [], [], _ => ⟨fun j x e => by simp at e, rfl⟩
  | x :: xs, i :: is, h => by
    obtain ⟨h1, h2⟩ := CapIn.get h.2
    refine ⟨fun j y e => ?_, by simp [h2]⟩
    cases j with
    | zero => simp at e; subst e; exact ⟨i, rfl, h.1⟩
    | succ j => exact h1 j y (by simpa using e)
  | [], _ :: _, h => h.elim
  | _ :: _, [], h => h.elim
theorem FreeIn.nil {X : Cx} : FreeIn X [] := trivial
theorem FreeIn.cons {X : Cx} {y : Str × NameKind} {r : List (Str × NameKind)} (h : y.2 = .free → X.env.kindOf y.1 = some .cell ∨ X.env.kindOf y.1 = some .free) (t : FreeIn X r) : FreeIn X (y :: r) := ⟨h, t⟩
theorem CapIn.nil {X : Cx} {scope : Scope} : CapIn X scope [] [] := trivial
theorem CapIn.cons {X : Cx} {scope : Scope} {x : Str} {xs : List Str} {i : Nat} {is : List Nat} (h1 : X.N[i]? = some x) (h2 : scope.names.lookup x = some .free) (t : CapIn X scope xs is) : CapIn X scope (x :: xs) (i :: is) := ⟨⟨h1, h2⟩, t⟩
theorem CScope.mk' {X : Cx} {scope : Scope} {own capn : List Str} {caps : List Nat} (k : scope.kind = .function) (c : ∀ y ∈ scope.names, y.2 ≠ .cell) (n : ∀ y ∈ scope.names, y.2 = .local → scope.names.lookup y.1 = some .local) (f : FreeIn X scope.names) (cp : CapIn X scope capn caps) : CScope X scope own capn caps :=
  ⟨k, c, n, f.get, cp.get.1, cp.get.2⟩
end Fm
set_option Elab.async false
set_option linter.all false
set_option maxRecDepth 100000
namespace Fm
open PySem PySem.Spec L2
section
variable {K : PySem.W.Frag} {ρ : List Addr} {H : Hp}
end
section
variable {X : Cx} {pos : Pos}
theorem me_negC {i : Int} {j : Nat} {p2 : Pos} : ME X (.UnaryOp .USub (.Constant (.int i) j p2) pos) (fC (.int (-i))) :=
  PE.imp (pe_un un_neg pe_int) fun σ H Q ⟨ρ, σd, hd, rs, p⟩ => ⟨i, rfl, p.here rs (by simp only [rD, RD])⟩
end
end Fm
set_option Elab.async false
set_option linter.all false
set_option maxRecDepth 100000
namespace Fm
open PySem PySem.Spec L2 PySem.W PyProof.Rows
theorem mid_of {l r : Nat} (h : l < r) : l ≤ (l + r) / 2 ∧ (l + r) / 2 < r := by omega
section
variable {cmp : Nat → Nat → (Bool → Shared → Prop) → Shared → Prop} {n : Nat} {s : Shared} {lt : Nat → Nat → Bool}
structure Ord (lt : Nat → Nat → Bool) (n : Nat) : Prop where
  asy : ∀ i j, i < n → j < n → lt i j = true → lt j i = false
  tr : ∀ i j k, i < n → j < n → k < n → lt i j = true → lt j k = true → lt i k = true
  tot : ∀ i j, i < n → j < n → i ≠ j → lt i j = false → lt j i = true
structure Gd (n : Nat) (p : Array Nat) : Prop where
  sz : p.size = n
  pm : p.Perm (List.toArray (List.range n))
theorem Gd.below (g : Gd n p) {i : Nat} (hi : i < n) : p.getD i 0 < n := by
  have h1 : i < p.size := by rw [g.sz]; exact hi
  have e : p.getD i 0 = p[i] := by simp [Array.getD, h1]
  rw [e]
  have m : p[i] ∈ p.toList := by simp
  have := (Array.perm_iff_toList_perm.mp g.pm).mem_iff.mp m
  simpa using this
theorem Gd.ne (g : Gd n p) {i j : Nat} (hi : i < n) (hj : j < n) (h : i ≠ j) : p.getD i 0 ≠ p.getD j 0 := by
  have h1 : i < p.size := by rw [g.sz]; exact hi
  have h2 : j < p.size := by rw [g.sz]; exact hj
  have e : p.getD i 0 = p[i] := by simp [Array.getD, h1]
  have e' : p.getD j 0 = p[j] := by simp [Array.getD, h2]
  rw [e, e']
  have nd : p.toList.Nodup := (Array.perm_iff_toList_perm.mp g.pm).nodup_iff.mpr (by simpa using List.nodup_range)
  intro z
  have := (List.getElem_inj (xs := p.toList) nd (i := i) (j := j) (h₀ := by simpa using h1) (h₁ := by simpa using h2)).mp (by simpa using z)
  exact h this
noncomputable def Srt (lt : Nat → Nat → Bool) (p : Array Nat) (m : Nat) : Prop := ∀ i j, i < j → j < m → lt (p.getD i 0) (p.getD j 0) = true
noncomputable def Dsc (lt : Nat → Nat → Bool) (p : Array Nat) (m : Nat) : Prop := ∀ i j, i < j → j < m → lt (p.getD j 0) (p.getD i 0) = true
theorem gd_range : Gd n (List.toArray (List.range n)) := ⟨by simp, Array.Perm.refl _⟩
theorem Srt.next {p : Array Nat} {m : Nat} (O : Ord lt n) (g : Gd n p) (h : Srt lt p m) (h1 : 1 ≤ m) (hm : m < n) (c : lt (p.getD (m - 1) 0) (p.getD m 0) = true) : Srt lt p (m + 1) := by
  intro i j hij hj
  by_cases e : j < m
  · exact h i j hij e
  · have : j = m := by omega
    subst this
    by_cases e2 : i = j - 1
    · subst e2; exact c
    · exact O.tr _ _ _ (g.below (by omega)) (g.below (by omega)) (g.below hm) (h i (j - 1) (by omega) (by omega)) c
theorem Dsc.next {p : Array Nat} {m : Nat} (O : Ord lt n) (g : Gd n p) (h : Dsc lt p m) (h1 : 1 ≤ m) (hm : m < n) (c : lt (p.getD m 0) (p.getD (m - 1) 0) = true) : Dsc lt p (m + 1) := by
  intro i j hij hj
  by_cases e : j < m
  · exact h i j hij e
  · have : j = m := by omega
    subst this
    by_cases e2 : i = j - 1
    · subst e2; exact c
    · exact O.tr _ _ _ (g.below hm) (g.below (by omega)) (g.below (by omega)) c (h i (j - 1) (by omega) (by omega))
variable (O : Ord lt n) (hc : ∀ i j, i < n → j < n → ∀ C : Bool → Shared → Prop, C (lt i j) s → cmp i j C s)
include O hc
theorem kas_asc_ok {p : Array Nat} (g : Gd n p) {Q : Nat → Shared → Prop} (q : ∀ m, 1 ≤ m → m ≤ n → Srt lt p m → (m < n → lt (p.getD m 0) (p.getD (m - 1) 0) = true) → Q m s) :
    ∀ (f m : Nat), 1 ≤ m → m + f = n → Srt lt p m → (kas_asc p f m).kasWp cmp Q s
  | 0, m, h1, e, h => q m h1 (by omega) h fun z => by omega
  | f + 1, m, h1, e, h => by
    refine hc _ _ (g.below (by omega)) (g.below (by omega)) _ ?_
    cases c : lt (p.getD m 0) (p.getD (m - 1) 0) with
    | true => ((try dsimp only); (try rw [if_pos rfl])); exact q m h1 (by omega) h fun _ => c
    | false =>
      ((try dsimp only); (try rw [if_neg Bool.false_ne_true]))
      have c' := O.tot _ _ (g.below (by omega)) (g.below (by omega)) (g.ne (i := m) (j := m - 1) (by omega) (by omega) (by omega)) c
      exact kas_asc_ok g q f (m + 1) (by omega) (by omega) (h.next O g h1 (by omega) c')
theorem kas_desc_ok {p : Array Nat} (g : Gd n p) {Q : Array Nat × Nat × Nat → Shared → Prop} (q : ∀ m, 1 ≤ m → m ≤ n → Dsc lt p m → Q (p, m, 0) s) :
    ∀ (f m : Nat), 1 ≤ m → m + f = n → Dsc lt p m → (kas_desc f p m 0).kasWp cmp Q s
  | 0, m, h1, e, h => q m h1 (by omega) h
  | f + 1, m, h1, e, h => by
    refine hc _ _ (g.below (by omega)) (g.below (by omega)) _ ?_
    cases c : lt (p.getD m 0) (p.getD (m - 1) 0) with
    | true =>
      ((try dsimp only); (try rw [if_pos rfl])); (try rw [if_neg (by omega)])
      exact kas_desc_ok g q f (m + 1) (by omega) (by omega) (h.next O g h1 (by omega) c)
    | false =>
      ((try dsimp only); (try rw [if_neg Bool.false_ne_true]))
      have c' := O.tot _ _ (g.below (by omega)) (g.below (by omega)) (g.ne (i := m) (j := m - 1) (by omega) (by omega) (by omega)) c
      refine hc _ _ (g.below (by omega)) (g.below (by omega)) _ ?_
      rw [c']; ((try dsimp only); (try rw [if_pos rfl]))
      exact q m h1 (by omega) h
omit hc in
theorem rev_ok {p : Array Nat} (g : Gd n p) {m : Nat} (hm : m ≤ n) (h : Dsc lt p m) : Gd n (kas_rev p 0 m) ∧ Srt lt (kas_rev p 0 m) m := by
  have at' : ∀ k, k < m → (kas_rev p 0 m).getD k 0 = p.getD (m - 1 - k) 0 := fun k hk => by
    have e := getElem?_mirror_all (xs := p) (i := 0) (j := m) (by rw [g.sz]; exact hm) k
    rw [if_pos ⟨Nat.zero_le _, hk⟩] at e
    unfold kas_rev
    rw [Array.getD_eq_getD_getElem?, Array.getD_eq_getD_getElem?, e, Nat.zero_add]
  refine ⟨⟨by unfold kas_rev; rw [mirror_size, g.sz], (mirror_perm _ _ _ _).trans g.pm⟩, fun i j hij hj => ?_⟩
  rw [at' i (by omega), at' j hj]
  exact h _ _ (by omega) (by omega)
theorem kas_count_ok (h2 : 2 ≤ n) {Q : Nat × Array Nat → Shared → Prop} (q : ∀ m p, Gd n p → 1 ≤ m → m ≤ n → Srt lt p m → Q (m, p) s) : (kas_count n (List.toArray (List.range n))).kasWp cmp Q s := by
  unfold kas_count
  rw [KasT.kasWp_bind]
  refine kas_asc_ok O hc gd_range (fun m h1 hm hs hd => ?_) (n - 1) 1 (Nat.le_refl _) (by omega) (fun i j hij hj => by omega)
  by_cases e : m = n
  · subst e
    rw [if_pos (by simp)]
    exact q m _ gd_range h1 (Nat.le_refl _) hs
  · rw [if_neg (by simpa using e)]
    by_cases e1 : m > 1
    · rw [if_pos e1]
      refine hc _ _ (gd_range.below (by omega)) (gd_range.below (by omega)) _ ?_
      have := hs 0 (m - 1) (by omega) (by omega)
      rw [this]; ((try dsimp only); (try rw [if_pos rfl]))
      exact q m _ gd_range h1 hm hs
    · rw [if_neg e1]
      have : m = 1 := by omega
      subst this
      have c := hd (by omega)
      unfold kas_descPart
      rw [KasT.kasWp_bind]
      refine kas_desc_ok O hc gd_range (fun m h1 hm hs => ?_) (n - 2) 2 (by omega) (by omega) (fun i j hij hj => ?_)
      · rw [if_neg (by simp)]
        unfold kas_tail3
        rw [KasT.kasWp_bind]
        obtain ⟨g', s'⟩ := rev_ok O gd_range hm hs
        exact kas_asc_ok O hc g' (fun m' h1' hm' hs' _ => q m' _ g' h1' hm' hs') (n - m) m h1 (by omega) s'
      · have hi : i = 0 := by omega
        have hj : j = 1 := by omega
        subst hi hj
        exact c
theorem kas_place_ok {p : Array Nat} (g : Gd n p) {k : Nat} (hk : k < n) (hs : Srt lt p k) {Q : Nat → Shared → Prop} (q : ∀ l, l ≤ k → (∀ i, i < l → lt (p.getD i 0) (p.getD k 0) = true) → (∀ i, l ≤ i → i < k → lt (p.getD k 0) (p.getD i 0) = true) → Q l s) :
    ∀ (f l r : Nat), r - l ≤ f → l ≤ r → r ≤ k → (∀ i, i < l → lt (p.getD i 0) (p.getD k 0) = true) → (∀ i, r ≤ i → i < k → lt (p.getD k 0) (p.getD i 0) = true) → (kas_place p k f l r).kasWp cmp Q s
  | 0, l, r, hf, hl, hr, a, b => q l (Nat.le_trans hl hr) a fun i h1 h2 => b i (Nat.le_trans (Nat.le_of_sub_eq_zero (Nat.le_zero.mp hf)) h1) h2
  | f + 1, l, r, hf, hl, hr, a, b => by
    unfold kas_place
    by_cases e : l ≥ r
    · rw [if_pos e]
      exact q l (Nat.le_trans hl hr) a fun i h1 h2 => b i (Nat.le_trans e h1) h2
    · rw [if_neg e]
      have lr : l < r := Nat.not_le.mp e
      have hh := mid_of lr
      generalize (l + r) / 2 = M at hh
      have hm : M < k := Nat.lt_of_lt_of_le hh.2 hr
      have hMn : M < n := Nat.lt_trans hm hk
      refine hc _ _ (g.below hk) (g.below hMn) _ ?_
      cases c : lt (p.getD k 0) (p.getD M 0) with
      | true =>
        ((try dsimp only); (try rw [if_pos rfl]))
        refine kas_place_ok g hk hs q f l M (Nat.le_of_lt_succ (Nat.lt_of_lt_of_le (Nat.sub_lt_sub_right hh.1 hh.2) hf)) hh.1 (Nat.le_of_lt hm) a fun i h1 h2 => ?_
        by_cases z : i = M
        · subst z; exact c
        · exact O.tr _ _ _ (g.below hk) (g.below hMn) (g.below (Nat.lt_trans h2 hk)) c (hs _ i (Nat.lt_of_le_of_ne h1 (Ne.symm z)) h2)
      | false =>
        ((try dsimp only); (try rw [if_neg Bool.false_ne_true]))
        have c' := O.tot _ _ (g.below hk) (g.below hMn) (g.ne (i := k) (j := M) hk hMn (Nat.ne_of_gt hm)) c
        refine kas_place_ok g hk hs q f (M + 1) r (Nat.le_of_lt_succ (Nat.lt_of_lt_of_le (Nat.sub_lt_sub_left lr (Nat.lt_succ_of_le hh.1)) hf)) hh.2 hr (fun i h1 => ?_) b
        by_cases z : i = M
        · subst z; exact c'
        · have hi : i < M := Nat.lt_of_le_of_ne (Nat.le_of_lt_succ h1) z
          exact O.tr _ _ _ (g.below (Nat.lt_trans hi hMn)) (g.below hMn) (g.below hk) (hs i _ hi hm) c'
theorem kas_bin_ok {Q : Array Nat → Shared → Prop} (q : ∀ p, Gd n p → Srt lt p n → Q p s) : ∀ (f : Nat) (p : Array Nat) (k : Nat), Gd n p → k + f = n → Srt lt p k → (kas_bin f p k).kasWp cmp Q s
  | 0, p, k, g, e, h => by
    have : k = n := e
    subst this
    exact q p g h
  | f + 1, p, k, g, e, h => by
    unfold kas_bin
    rw [KasT.kasWp_bind]
    have hk : k < n := e ▸ Nat.lt_add_of_pos_right (Nat.succ_pos f)
    refine kas_place_ok O hc g hk h (fun l hl a b => ?_) k 0 k (Nat.le_refl _) (Nat.zero_le _) (Nat.le_refl _) (fun i z => absurd z (Nat.not_lt_zero _)) (fun i z z' => absurd z' (Nat.not_lt.mpr z))
    have hks : k < p.size := by rw [g.sz]; exact hk
    have at' : ∀ i, (bubble p k (k - l)).getD i 0 = if i = l then p.getD k 0 else if l < i ∧ i ≤ k then p.getD (i - 1) 0 else p.getD i 0 := fun i => by
      have := getElem?_bubble hks (k - l) (Nat.sub_le _ _) i
      rw [Nat.sub_sub_self hl] at this
      simp only [Array.getD_eq_getD_getElem?]
      rw [this]
      by_cases c1 : i = l
      · rw [if_pos c1, if_pos c1]
      · rw [if_neg c1, if_neg c1]
        by_cases c2 : l < i ∧ i ≤ k
        · rw [if_pos c2, if_pos c2]
        · rw [if_neg c2, if_neg c2]
    refine kas_bin_ok q f _ (k + 1) ⟨by rw [bubble_size, g.sz], (bubble_perm _ _ _).trans g.pm⟩ (by rw [Nat.add_right_comm]; exact e) fun i j hij hj => ?_
    have jk : j ≤ k := Nat.le_of_lt_succ hj
    have j1 : j - 1 < k := Nat.sub_one_lt_of_le (Nat.zero_lt_of_lt hij) jk
    rw [at' i, at' j]
    by_cases c1 : i = l
    · have lj : l < j := c1 ▸ hij
      rw [if_pos c1, if_neg (Nat.ne_of_gt lj), if_pos ⟨lj, jk⟩]
      exact b _ (Nat.le_sub_one_of_lt lj) j1
    · rw [if_neg c1]
      by_cases c2 : l < i ∧ i ≤ k
      · have lj : l < j := Nat.lt_trans c2.1 hij
        rw [if_pos c2, if_neg (Nat.ne_of_gt lj), if_pos ⟨lj, jk⟩]
        exact h _ _ (Nat.sub_lt_sub_right (Nat.zero_lt_of_lt c2.1) hij) j1
      · rw [if_neg c2]
        have il : i < l := Nat.lt_of_le_of_ne (Nat.not_lt.mp fun z => c2 ⟨z, Nat.le_trans (Nat.le_of_lt hij) jk⟩) c1
        by_cases c3 : j = l
        · rw [if_pos c3]; exact a _ il
        · rw [if_neg c3]
          by_cases c4 : l < j ∧ j ≤ k
          · rw [if_pos c4]
            exact h _ _ (Nat.lt_of_lt_of_le il (Nat.le_sub_one_of_lt c4.1)) j1
          · rw [if_neg c4]
            have jl : j < l := Nat.lt_of_le_of_ne (Nat.not_lt.mp fun z => c4 ⟨z, jk⟩) c3
            exact h _ _ hij (Nat.lt_of_lt_of_le jl hl)
theorem kas_sort_ok (h2 : 2 ≤ n) {Q : Array Nat → Shared → Prop} (q : ∀ p, Gd n p → Srt lt p n → Q p s) : (kas_sort n).kasWp cmp Q s := by
  unfold kas_sort
  rw [KasT.kasWp_bind]
  refine kas_count_ok O hc h2 fun m p g h1 hm hs => ?_
  by_cases e : m < n
  · rw [if_pos e]
    have : max m 1 = m := by omega
    show KasT.kasWp cmp (kas_bin (n - max m 1) p (max m 1)) Q s
    rw [this]
    exact kas_bin_ok O hc q (n - m) p m g (by omega) hs
  · rw [if_neg e]
    have : m = n := by omega
    subst this
    exact q p g hs
end
end Fm
set_option linter.all false
namespace Fm
noncomputable def insR (x : List Int) : List (List Int) → List (List Int)
  | [] => [x]
  | y :: r => if lexLt x y = true then x :: y :: r else y :: insR x r
noncomputable def sortRows : List (List Int) → List (List Int)
  | [] => []
  | x :: r => insR x (sortRows r)
noncomputable def encRow (r : List Int) : D := .tup (r.map .int)
theorem lexLt_irrefl : ∀ a, lexLt a a = false
  | [] => rfl
  | x :: a => by simp [lexLt, lexLt_irrefl a]
theorem lexLt_trans : ∀ {a b c}, lexLt a b = true → lexLt b c = true → lexLt a c = true
  | [], [], _, h, _ => by simp [lexLt] at h
  | [], _ :: _, [], _, h => by simp [lexLt] at h
  | [], _ :: _, _ :: _, _, _ => rfl
  | _ :: _, [], _, h, _ => by simp [lexLt] at h
  | _ :: _, _ :: _, [], _, h => by simp [lexLt] at h
  | x :: a, y :: b, z :: c, h, h' => by
    simp only [lexLt] at h h' ⊢
    by_cases e : x = y
    · subst e
      rw [if_pos rfl] at h
      by_cases e2 : x = z
      · subst e2
        rw [if_pos rfl] at h' ⊢
        exact lexLt_trans h h'
      · rw [if_neg e2] at h' ⊢; exact h'
    · rw [if_neg e] at h
      by_cases e2 : y = z
      · subst e2
        rw [if_neg e]; exact h
      · rw [if_neg e2] at h'
        simp at h h'
        rw [if_neg (by omega)]
        simp; omega
theorem lexLt_tot : ∀ {a b}, a ≠ b → lexLt a b = false → lexLt b a = true
  | [], [], h, _ => absurd rfl h
  | [], _ :: _, _, h => by simp [lexLt] at h
  | _ :: _, [], _, _ => rfl
  | x :: a, y :: b, h, h' => by
    simp only [lexLt] at h' ⊢
    by_cases e : x = y
    · subst e
      rw [if_pos rfl] at h' ⊢
      exact lexLt_tot (fun z => h (by rw [z])) h'
    · rw [if_neg e] at h'
      rw [if_neg (Ne.symm e)]
      simp at h' ⊢; omega
theorem lexLt_asymm {a b : List Int} (h : lexLt a b = true) : lexLt b a = false := by
  cases c : lexLt b a with
  | false => rfl
  | true => have := lexLt_trans h c; rw [lexLt_irrefl] at this; cases this
theorem insR_perm (x : List Int) : ∀ r, (insR x r).Perm (x :: r)
  | [] => .refl _
  | y :: r => by
    simp only [insR]
    split
    · exact .refl _
    · exact ((insR_perm x r).cons y).trans (.swap x y r)
theorem sortRows_perm : ∀ r, (sortRows r).Perm r
  | [] => .refl _
  | x :: r => (insR_perm x _).trans ((sortRows_perm r).cons x)
theorem insR_rises {x : List Int} : ∀ {r : List (List Int)}, x ∉ r → r.Pairwise (fun a b => lexLt a b = true) → (insR x r).Pairwise (fun a b => lexLt a b = true)
  | [], _, _ => by simp [insR]
  | y :: r, hx, h => by
    simp only [insR]
    have hy : ¬ x = y := fun z => hx (by simp [z])
    have hr : x ∉ r := fun z => hx (by simp [z])
    obtain ⟨h1, h2⟩ := List.pairwise_cons.mp h
    split
    · rename_i c
      refine List.pairwise_cons.mpr ⟨fun b hb => ?_, h⟩
      rcases List.mem_cons.mp hb with rfl | hb
      · exact c
      · exact lexLt_trans c (h1 b hb)
    · rename_i c
      have c' := lexLt_tot hy (by simpa using c)
      refine List.pairwise_cons.mpr ⟨fun b hb => ?_, insR_rises hr h2⟩
      rcases List.mem_cons.mp ((insR_perm x r).mem_iff.mp hb) with rfl | hb
      · exact c'
      · exact h1 b hb
theorem sortRows_rises : ∀ {r : List (List Int)}, r.Nodup → (sortRows r).Pairwise (fun a b => lexLt a b = true)
  | [], _ => .nil
  | x :: r, h => by
    obtain ⟨h1, h2⟩ := List.nodup_cons.mp h
    exact insR_rises (fun z => h1 ((sortRows_perm r).mem_iff.mp z)) (sortRows_rises h2)
theorem rises_one {a b : List (List Int)} (p : a.Perm b) (ha : a.Pairwise (fun a b => lexLt a b = true)) (hb : b.Pairwise (fun a b => lexLt a b = true)) : a = b :=
  List.Perm.eq_of_pairwise (fun x y _ _ h h' => by have := lexLt_asymm h; rw [h'] at this; cases this) ha hb p
end Fm
set_option Elab.async false
set_option linter.all false
set_option maxRecDepth 100000
namespace Fm
open PySem PySem.Spec L2 PySem.W PyProof.Rows
section
variable {X : Cx} {pos p : Pos}
theorem RowsV.rds {K : PySem.W.Frag} {ρ : List Addr} {H : Hp} : ∀ {vs : List V} {rs : List (List Int)}, RowsV H vs rs → RDs K ρ H (rs.map encRow) vs
  | _, _, .nil => RDs.nil
  | _, _, .cons (a := a) (r := r) h t => by
    refine RDs.cons ?_ (RowsV.rds t)
    unfold encRow
    simp only [RD]
    refine ⟨a, _, rfl, h, ?_⟩
    clear h
    induction r with
    | nil => exact RDs.nil
    | cons x r ih => exact RDs.cons (by simp only [RD]) ih
theorem RowsV.pick {H : Hp} {vs : List V} {rs : List (List Int)} (h : RowsV H vs rs) : ∀ (l : List Nat), (∀ i ∈ l, i < vs.length) → RowsV H (l.map fun i => vs.getD i .non) (l.map fun i => rs.getD i [])
  | [], _ => .nil
  | i :: l, hl => by
    have hi : i < vs.length := hl i (by simp)
    obtain ⟨a, e, ha⟩ := h.get (i := i) (v := vs[i]) (by simp [hi])
    have t := RowsV.pick h l fun j hj => hl j (by simp [hj])
    have : vs.getD i .non = .ref a := by simp [List.getD, hi, e]
    simp only [List.map_cons, this]
    exact .cons ha t
theorem Vals.pick {vs : List V} {us : List Value} (h : Vals vs us) : ∀ (l : List Nat), (∀ i ∈ l, i < vs.length) → Vals (l.map fun i => vs.getD i .non) (l.map fun i => us.getD i Value.none)
  | [], _ => .nil
  | i :: l, hl => by
    have hi : i < vs.length := hl i (by simp)
    obtain ⟨u, e, ru⟩ := h.get (i := i) (x := vs[i]) (by simp [hi])
    have t := Vals.pick h l fun j hj => hl j (by simp [hj])
    simp only [List.map_cons]
    refine .cons ?_ t
    simp [List.getD, hi, e]
    exact ru
end
end Fm
set_option Elab.async false
set_option linter.all false
set_option maxRecDepth 100000
namespace Fm
open PySem PySem.Spec L2 PySem.W PyProof.Rows
section
variable {X : Cx} {pos p : Pos}
theorem RDs.rep {K : PySem.W.Frag} {ρ : List Addr} {H : Hp} {l : List D} {vs : List V} (r : RDs K ρ H l vs) : ∀ k, RDs K ρ H (List.replicate k l).flatten (List.replicate k vs).flatten
  | 0 => RDs.nil
  | k + 1 => by
    rw [List.replicate_succ, List.replicate_succ, List.flatten_cons, List.flatten_cons]
    exact RDs.append r (RDs.rep r k)
end
end Fm
set_option Elab.async false
set_option linter.all false
set_option maxRecDepth 100000
namespace L2
open PySem PySem.Spec PyProof.Rows
section
variable {κ : Type} [DecidableEq κ]
noncomputable def valV (kvs : List (κ × V)) (k : κ) : Option V := (kvs.find? fun kv => decide (kv.1 = k)).map (·.2)
noncomputable def putK (kvs : List (κ × V)) (k : κ) (v : V) : List (κ × V) :=
  if (kvs.any fun kv => decide (kv.1 = k)) = true then kvs.map (fun kv => if kv.1 = k then (kv.1, v) else kv) else kvs ++ [(k, v)]
theorem valV_pos {p : κ × V} {r : List (κ × V)} {k : κ} (e : p.1 = k) : valV (p :: r) k = some p.2 := by simp [valV, List.find?_cons, e]
theorem valV_neg {p : κ × V} {r : List (κ × V)} {k : κ} (e : ¬ p.1 = k) : valV (p :: r) k = valV r k := by simp [valV, List.find?_cons, e]
theorem valV_any (k : κ) : ∀ kvs : List (κ × V), (kvs.any fun kv => decide (kv.1 = k)) = (valV kvs k).isSome
  | [] => rfl
  | p :: r => by
    rw [List.any_cons]
    by_cases e : p.1 = k
    · simp only [valV_pos e, decide_eq_true e, Bool.true_or, Option.isSome_some]
    · rw [valV_neg e, decide_eq_false e, Bool.false_or]; exact valV_any k r
theorem length_putK (kvs : List (κ × V)) (k : κ) (v : V) : (putK kvs k v).length ≤ kvs.length + 1 := by
  unfold putK
  split
  · rw [List.length_map]; omega
  · rw [List.length_append, List.length_cons, List.length_nil]; omega
theorem RelO.isSome_eq {o : Option V} {u : Option Value} (r : RelO o u) : o.isSome = u.isSome := by
  cases o with
  | none => cases u with
    | none => rfl
    | some _ => exact (show False from r).elim
  | some _ => cases u with
    | none => exact (show False from r).elim
    | some _ => rfl
theorem KV.val {kvs : List (κ × V)} {vs : List (κ × Value)} (r : KV kvs vs) (k : κ) : RelO (valV kvs k) (valueAt vs k) := by
  unfold KV at r
  induction r with
  | nil => exact True.intro
  | @cons p q ps qs h t ih =>
    obtain ⟨h1, h2⟩ := h
    by_cases e : p.1 = k
    · have e' : q.1 = k := h1.symm.trans e
      have b : valueAt (q :: qs) k = some q.2 := by simp [valueAt, List.find?_cons, e']
      rw [valV_pos e, b]; exact h2
    · have e' : ¬ q.1 = k := fun z => e (h1.trans z)
      have b : valueAt (q :: qs) k = valueAt qs k := by simp [valueAt, List.find?_cons, e']
      rw [valV_neg e, b]; exact ih
theorem KV.any {kvs : List (κ × V)} {vs : List (κ × Value)} (r : KV kvs vs) (k : κ) : (kvs.any fun kv => decide (kv.1 = k)) = vs.any fun kv => decide (kv.1 = k) := by
  unfold KV at r
  induction r with
  | nil => rfl
  | cons h t ih => rw [List.any_cons, List.any_cons, ih, h.1]
theorem KV.repl {kvs : List (κ × V)} {vs : List (κ × Value)} (r : KV kvs vs) (k : κ) {y : V} {u : Value} (ry : RelV y u) :
    KV (kvs.map fun kv => if kv.1 = k then (kv.1, y) else kv) (vs.map fun kv => if kv.1 = k then (kv.1, u) else kv) := by
  unfold KV at r ⊢
  induction r with
  | nil => exact .nil
  | @cons p q ps qs h t ih =>
    rw [List.map_cons, List.map_cons]
    refine .cons ?_ ih
    obtain ⟨h1, h2⟩ := h
    by_cases e : p.1 = k
    · rw [if_pos e, if_pos (h1.symm.trans e)]; exact ⟨h1, ry⟩
    · rw [if_neg e, if_neg (fun z => e (h1.trans z))]; exact ⟨h1, h2⟩
theorem KV.put {kvs : List (κ × V)} {vs : List (κ × Value)} (r : KV kvs vs) (k : κ) {y : V} {u : Value} (ry : RelV y u) : KV (putK kvs k y) (stored vs k u) := by
  unfold putK stored
  rw [r.any k]
  by_cases e : (vs.any fun kv => decide (kv.1 = k)) = true
  · rw [if_pos e, if_pos e]; exact r.repl k ry
  · rw [if_neg e, if_neg e]; exact Paired.snoc r ⟨rfl, ry⟩
theorem KV.length {kvs : List (κ × V)} {vs : List (κ × Value)} (r : KV kvs vs) : kvs.length = vs.length := Paired.length r
end
theorem kV_is {P : Program} {w : World} {k : Key} {u : Value} (r : RelV (kV k) u) : (mixKind P w).is k u = true := by
  cases k with
  | inl i => obtain ⟨t, e⟩ := (show ∃ t, u = Value.int i t from r); subst e; exact mixKind_int P w i t
  | inr x => obtain ⟨t, e⟩ := (show ∃ t, u = Value.str x t from r); subst e; exact mixKind_str P w x t
theorem items_are {P : Program} {w : World} : ∀ {ks : List Key} {us : List Value}, Vals (ks.map kV) us → ItemsAre (mixKind P w) ks us
  | [], _, r => by rw [List.map_nil] at r; cases r; exact .nil
  | k :: ks, _, r => by
    rw [List.map_cons] at r
    cases r with
    | cons h t => exact .cons (kV_is h) (items_are t)
noncomputable abbrev KT (H : Hp) : List (List Key × V) → List (List Key × Addr × Value) → Prop := Paired fun p q => p.1 = q.1 ∧ H q.2.1 = some (.tup (p.1.map kV)) ∧ RelV p.2 q.2.2
theorem KT.val {H : Hp} {kvs : List (List Key × V)} {xs : List (List Key × Addr × Value)} (r : KT H kvs xs) (k : List Key) : RelO (valV kvs k) ((atKey xs k).map (·.2)) := by
  induction r with
  | nil => exact True.intro
  | @cons p q ps qs h t ih =>
    obtain ⟨h1, _, h2⟩ := h
    by_cases e : p.1 = k
    · have e' : q.1 = k := h1.symm.trans e
      have b : atKey (q :: qs) k = some q.2 := by simp [atKey, List.find?_cons, e']
      rw [valV_pos e, b]; exact h2
    · have e' : ¬ q.1 = k := fun z => e (h1.trans z)
      have b : atKey (q :: qs) k = atKey qs k := by simp [atKey, List.find?_cons, e']
      rw [valV_neg e, b]; exact ih
theorem KT.repl {H : Hp} {kvs : List (List Key × V)} {xs : List (List Key × Addr × Value)} (r : KT H kvs xs) (k : List Key) {y : V} {u : Value} (ry : RelV y u) :
    KT H (kvs.map fun kv => if kv.1 = k then (kv.1, y) else kv) (xs.map (putAt k u)) := by
  induction r with
  | nil => exact .nil
  | @cons p q ps qs h t ih =>
    rw [List.map_cons, List.map_cons]
    refine .cons ?_ ih
    obtain ⟨h1, h2, h3⟩ := h
    unfold putAt
    by_cases e : p.1 = k
    · rw [if_pos e, if_pos (h1.symm.trans e)]; exact ⟨h1, h2, ry⟩
    · rw [if_neg e, if_neg (fun z => e (h1.trans z))]; exact ⟨h1, h2, h3⟩
theorem KT.put {H : Hp} {kvs : List (List Key × V)} {xs : List (List Key × Addr × Value)} (r : KT H kvs xs) (k : List Key) {b : Addr} {y : V} {u : Value} (hb : H b = some (.tup (k.map kV))) (ry : RelV y u) :
    KT H (putK kvs k y) (storedH xs k b u) := by
  have e : (kvs.any fun kv => decide (kv.1 = k)) = (atKey xs k).isSome := by
    rw [valV_any, (r.val k).isSome_eq, Option.isSome_map]
  unfold putK storedH
  rw [e]
  by_cases q : (atKey xs k).isSome = true
  · rw [if_pos q, if_pos q]; exact r.repl k ry
  · rw [if_neg q, if_neg q]; exact Paired.snoc r ⟨rfl, hb, ry⟩
theorem KT.keeps {H H' : Hp} {kvs : List (List Key × V)} {xs : List (List Key × Addr × Value)} (r : KT H kvs xs) (ht : ∀ b ys, H b = some (.tup ys) → H' b = some (.tup ys)) : KT H' kvs xs :=
  Paired.mapP r fun _ _ z => ⟨z.1, ht _ _ z.2.1, z.2.2⟩
section
variable {P : Program} {w : World} {H : Hp} {h : Heap} {a : Addr}
theorem rd_of {u : HO} (ok : HOk P w H h) (e : Rd H a u) : ObjOk P w H h a u := e.ok ok
theorem dk_rd {kvs : List (Key × V)} (ok : HOk P w H h) (e : Rd H a (.dK kvs)) : kvs.length ≤ sizeLine ∧ (a == sysModules) = false ∧ ∃ vs, KV kvs vs ∧ h.DictOf (mixKind P w) a vs :=
  show ObjOk P w H h a (.dK kvs) from rd_of ok e
theorem dk_of {kvs : List (Key × V)} (ok : HOk P w H h) (e : H a = some (.dK kvs)) : kvs.length ≤ sizeLine ∧ (a == sysModules) = false ∧ ∃ vs, KV kvs vs ∧ h.DictOf (mixKind P w) a vs := dk_rd ok (.inl e)
theorem key_of {ks : List Key} (ok : HOk P w H h) (e : H a = some (.tup (ks.map kV))) : (tupleKind (mixKind P w)).is h ks a := by
  obtain ⟨_, its, r, o, h1, h2, n, h3⟩ := (show ObjOk P w H h a (.tup (ks.map kV)) from ok a _ e)
  exact ⟨o, its.toArray, n, h1, h2, h3, by simpa using items_are r⟩
theorem dt_rd {kvs : List (List Key × V)} (ok : HOk P w H h) (e : Rd H a (.dT kvs)) : kvs.length ≤ sizeLine ∧ (a == sysModules) = false ∧
    ∃ xs, KT H kvs xs ∧ h.DictOfH (tupleKind (mixKind P w)) a xs := by
  obtain ⟨z, y, xs, r, o, es, ep, h1, h2, h3, h4, h5⟩ := (show ObjOk P w H h a (.dT kvs) from rd_of ok e)
  refine ⟨z, y, xs, r, o, es, ep, h1, h2, h3, h4, fun x hx => ?_, h5⟩
  have all : ∀ {l : List (List Key × V)} {m : List (List Key × Addr × Value)}, KT H l m → ∀ x ∈ m, (tupleKind (mixKind P w)).is h x.1 x.2.1 := by
    intro l m q
    induction q with
    | nil => intro x hx; exact nomatch hx
    | @cons p q ps qs hq t ih =>
      intro x hx
      rcases List.mem_cons.mp hx with e | hx
      · subst e
        exact key_of ok (by rw [← hq.1]; exact hq.2.1)
      · exact ih x hx
  exact all r x hx
theorem dt_of {kvs : List (List Key × V)} (ok : HOk P w H h) (e : H a = some (.dT kvs)) : kvs.length ≤ sizeLine ∧ (a == sysModules) = false ∧
    ∃ xs, KT H kvs xs ∧ h.DictOfH (tupleKind (mixKind P w)) a xs := dt_rd ok (.inl e)
end
noncomputable def DGet (H : Hp) (a : Addr) (y : V) (r : Option V) : Prop :=
  (∃ kvs k, Rd H a (.dK kvs) ∧ y = kV k ∧ r = valV kvs k) ∨ ∃ kvs k b, Rd H a (.dT kvs) ∧ y = .ref b ∧ H b = some (.tup (k.map kV)) ∧ r = valV kvs k
noncomputable def DPut (H : Hp) (a : Addr) (y v : V) (H' : Hp) : Prop :=
  (∃ kvs k, H a = some (.dK kvs) ∧ y = kV k ∧ kvs.length < sizeLine ∧ H' = upd H a (.dK (putK kvs k v))) ∨
  ∃ kvs k b, H a = some (.dT kvs) ∧ y = .ref b ∧ H b = some (.tup (k.map kV)) ∧ kvs.length < sizeLine ∧ H' = upd H a (.dT (putK kvs k v))
theorem DGet.k {H : Hp} {a : Addr} {kvs : List (Key × V)} {k : Key} (e : H a = some (.dK kvs)) : DGet H a (kV k) (valV kvs k) := .inl ⟨kvs, k, .inl e, rfl, rfl⟩
theorem DPut.k {H : Hp} {a : Addr} {kvs : List (Key × V)} {k : Key} {v : V} (e : H a = some (.dK kvs)) (hl : kvs.length < sizeLine) : DPut H a (kV k) v (upd H a (.dK (putK kvs k v))) := .inl ⟨kvs, k, e, rfl, hl, rfl⟩
section
variable {X : Cx} {pins : List (Addr × Obj)} {σ : St} {H : Hp} {s : Shared} {a : Addr} {y v : V} {u r : Value} {o : Option V} {A : Around} {E : Value → Shared → Prop}
theorem Inv.big (I : Inv X pins σ H s) : sysModules < s.heap.objs.size := by
  have h : mainGlobals < s.heap.objs.size := (I.mod.glob.keeps I.bk).lt
  exact Nat.lt_trans (by decide) h
theorem d_in {Q : Value → Shared → Prop} (hu : A.units + 1 < cLine) (I : Inv X pins σ H s) (g : DGet H a y o) (ry : RelV y u) (h : ∀ s', Inv X pins σ H s' → Q (.bool o.isSome) s') :
    wpAny (model X.prog X.w) A (compareOp .In u (.ref a)) Q E s := by
  rcases g with ⟨kvs, k, e, ey, l⟩ | ⟨kvs, k, b, e, ey, eb, l⟩
  · subst ey
    obtain ⟨z, hd, vs, rel, dd⟩ := dk_rd I.hok e
    refine wpAny_in_of (kV_is ry) hd dd.mapOf ?_
    rw [← (rel.val k).isSome_eq, ← l]
    exact h _ (I.tok _)
  · subst ey
    cases (show u = Value.ref b from ry)
    obtain ⟨z, hd, xs, rel, dd⟩ := dt_rd I.hok e
    refine wpAny_in_heap (tupleKind_room_in1 hu) (key_of I.hok eb) hd dd ?_
    have q := (rel.val k).isSome_eq
    rw [Option.isSome_map] at q
    rw [← q, ← l]
    exact h _ (I.tok _)
theorem d_write {h' : Heap} {t' : Nat} {ob : HO} (I : Inv X pins σ H s) (mu : Mut (H a)) (hs : Heap.SameBut a s.heap h') (he : ∃ q, h'.get? a = some q) (new : ObjOk X.prog X.w (upd H a ob) h' a ob) :
    Inv X pins σ (upd H a ob) { s with heap := h', toks := t' } :=
  I.write (x := a) (e := a) mu (.inl rfl) (fun b q hb z => (hs.2 b hb).trans z) he new
theorem dk_new {P : Program} {w : World} {H' : Hp} {h' : Heap} {kvs : List (Key × V)} {vs : List (Key × Value)} (z : kvs.length ≤ sizeLine) (hd : (a == sysModules) = false) (rel : KV kvs vs) (dd : h'.DictOf (mixKind P w) a vs) :
    ObjOk P w H' h' a (.dK kvs) := ⟨z, hd, vs, rel, dd⟩
theorem d_setItem {H' : Hp} {Q : Unit → Shared → Prop} (hu : A.units + 1 < cLine) (I : Inv X pins σ H s) (g : DPut H a y v H') (ry : RelV y u) (rv : RelV v r) (h : ∀ s', Inv X pins σ H' s' → Q () s') :
    wpAny (model X.prog X.w) A (setItem (.ref a) u r) Q E s := by
  rcases g with ⟨kvs, k, e, ey, l, eH⟩ | ⟨kvs, k, b, e, ey, eb, l, eH⟩
  · subst ey eH
    obtain ⟨z, hd, vs, rel, dd⟩ := dk_of I.hok e
    have hz : vs.length ≤ sizeLine := by rw [← rel.length]; exact z
    have hl : (putK kvs k v).length ≤ sizeLine := by have := length_putK kvs k v; omega
    refine wpAny_setItem_pairs (hsz := hz) (kV_is ry) dd fun h' dd' hs => h _ ?_
    have he : ∃ q, h'.get? a = some q := let ⟨q, _, _, hq, _⟩ := dd'; ⟨q, hq⟩
    exact d_write I (by rw [e]; exact True.intro) hs he (dk_new hl hd (rel.put k rv) dd')
  · subst ey eH
    cases (show u = Value.ref b from ry)
    obtain ⟨z, hd, xs, rel, dd⟩ := dt_of I.hok e
    have hz : xs.length ≤ sizeLine := by rw [← Paired.length rel]; exact z
    have hl : (putK kvs k v).length ≤ sizeLine := by have := length_putK kvs k v; omega
    refine wpAny_setItem_heap (hsz := hz) (tupleKind_room_in1 hu) (key_of I.hok eb) dd fun h' dd' hs => h _ ?_
    obtain ⟨q, es, ep, hq, h2, h3, h4, _, h5⟩ := dd'
    refine d_write I (by rw [e]; exact True.intro) hs ⟨q, hq⟩ ⟨hl, hd, _, (rel.put k eb rv).keeps fun c ys ec => ?_, q, es, ep, hq, h2, h3, h4, h5⟩
    rw [upd_ne (ne_of ec e (fun z => nomatch z))]
    exact ec
end
section
variable {X : Cx} {pins : List (Addr × Obj)} {σ : St} {H : Hp} {s : Shared} {a : Addr} {kvs : List (Key × V)} {k : Key} {u : Value} {A : Around} {E : Value → Shared → Prop}
end
section
variable {X : Cx} {o i e value : Expr} {pos pos' tpos : Pos} {td ty tv : TE}
end
theorem dk_empty {P : Program} {w : World} {H : Hp} (h : Heap) (hb : sysModules < h.objs.size) : ObjOk P w H (h.push { cls := .type "dict", data := .dict #[] }) h.objs.size (.dK []) :=
  ⟨Nat.zero_le _, beq_eq_false_iff_ne.mpr (Ne.symm (Nat.ne_of_lt hb)), [], .nil, Heap.DictOf.new h⟩
noncomputable def tDNewK : TE := fun _ H Q => ∀ p, H p = none → Q (.ref p) (upd H p (.dK []))
section
variable {X : Cx} {pos : Pos}
theorem pe_dnewK : PE X (.Dict [] [] pos) tDNewK := fun pins s σ H Q I h =>
  wpAny_Dict_empty ⟨.ref s.heap.objs.size, _, I.laid (a := s.heap.objs.size) (o := .dK []) (t' := s.toks) (fun _ _ q => Heap.get?_push_of_some _ q) (Nat.le_refl _) (dk_empty s.heap I.big), rfl, h _ (I.hok.fresh (Nat.le_refl _))⟩
end
structure M1 (X : Cx) (o : Expr) (m : Str) (apos : Pos) (e : Expr) (cpos : Pos) : Prop where
  base : attributeBase o m X.env (eval o X.env) = eval o X.env
  few : ((backTo cpos (starEach [e] X.env)).all (fun x => !x.1) && (backToKw cpos (keywordEach [] X.env)).all (fun x => x.1.isSome)
    && decide (([e] : List Expr).length + ([] : List Keyword).length + (if ([] : List Keyword).isEmpty then 0 else 1) < 30)) = true
  line : (apos.endLine == cpos.line) = true
  trees : backTo cpos (starEach [e] X.env) = [(false, eval e X.env)]
structure M2 (X : Cx) (o : Expr) (m : Str) (apos : Pos) (e f : Expr) (cpos : Pos) : Prop where
  base : attributeBase o m X.env (eval o X.env) = eval o X.env
  few : ((backTo cpos (starEach [e, f] X.env)).all (fun x => !x.1) && (backToKw cpos (keywordEach [] X.env)).all (fun x => x.1.isSome)
    && decide (([e, f] : List Expr).length + ([] : List Keyword).length + (if ([] : List Keyword).isEmpty then 0 else 1) < 30)) = true
  line : (apos.endLine == cpos.line) = true
  trees : backTo cpos (starEach [e, f] X.env) = [(false, eval e X.env), (false, eval f X.env)]
noncomputable def IsD (H : Hp) (a : Addr) : Prop := (∃ kvs, Rd H a (.dK kvs)) ∨ ∃ kvs, Rd H a (.dT kvs)
theorem isD_at {X : Cx} {pins : List (Addr × Obj)} {σ : St} {H : Hp} {s : Shared} {a : Addr} (I : Inv X pins σ H s) (d : IsD H a) :
    s.TypeIs (.ref a) "dict" ∧ (∀ b, Value.ref a = .ref b → ∃ ob, s.heap.get? b = some ob ∧ ob.dict = none) ∧ (a == sysModules) = false := by
  rcases d with ⟨kvs, e⟩ | ⟨kvs, e⟩
  · obtain ⟨_, hd, vs, _, dd⟩ := dk_rd I.hok e
    refine ⟨dd.typeIs, fun b q => ?_, hd⟩
    cases q
    obtain ⟨ob, _, _, h1, h2, _⟩ := dd
    exact ⟨ob, h1, h2.2.1⟩
  · obtain ⟨_, hd, xs, _, dd⟩ := dt_rd I.hok e
    refine ⟨dd.typeIs, fun b q => ?_, hd⟩
    cases q
    obtain ⟨ob, _, _, h1, h2, _⟩ := dd
    exact ⟨ob, h1, h2.2.1⟩
section
variable {X : Cx} {pins : List (Addr × Obj)} {σ : St} {H : Hp} {s : Shared} {a : Addr} {y d : V} {u r : Value} {o : Option V} {A : Around} {E : Value → Shared → Prop}
end
section
variable {X : Cx} {o e f : Expr} {apos cpos : Pos} {td ty tx : TE}
end
section
variable {X : Cx} {pins : List (Addr × Obj)} {σ : St} {H : Hp} {s : Shared} {a : Addr} {kvs : List (Key × V)} {A : Around} {E : Value → Shared → Prop}
end
section
variable {X : Cx} {pins : List (Addr × Obj)} {σ : St} {H : Hp} {s : Shared} {a : Addr} {y : V} {u : Value} {A : Around} {E : Value → Shared → Prop}
end
end L2
set_option linter.all false
namespace Fm
@[simp] noncomputable def fDNew : EF := fun _ h => .ok (.ref h.length) (h ++ [.dct []])
noncomputable def dval (l : List (Int × D)) (k : Int) : Option D := (l.find? fun p => decide (p.1 = k)).map (·.2)
noncomputable def dput (l : List (Int × D)) (k : Int) (v : D) : List (Int × D) := if (l.any fun p => decide (p.1 = k)) = true then l.map (fun p => if p.1 = k then (p.1, v) else p) else l ++ [(k, v)]
@[simp] noncomputable def oInD : O2 := fun x y h => match x, y with
  | .int k, .ref n => match h[n]? with | some (.dct l) => .ok (.bl (dval l k).isSome) h | _ => .bad
  | _, _ => .bad
@[simp] noncomputable def sPutD (x i e : EF) : SF := fun σ h => outE (e σ h) σ fun d h => outE (x σ h) σ fun p h => outE (i σ h) σ fun j h => match p, j with
  | .ref n, .int k => match h[n]? with
    | some (.dct l) => if l.length < SZ then .nx σ (h.set n (.dct (dput l k d))) else .bad
    | _ => .bad
  | _, _ => .bad
noncomputable def itemRows : List (Int × D) → Option (List (List Int))
  | [] => some []
  | (k, .int v) :: r => (itemRows r).map fun l => [k, v] :: l
  | _ => none
@[simp] noncomputable def lSortI (a : EF) : LF := fun σ h => (a σ h).bind fun x h => match x with
  | .ref n => match h[n]? with
    | some (.dct l) => match itemRows l with
      | some r => if r.length < 64 ∧ r.Nodup then .ok ((sortRows r).map encRow) h else .bad
      | none => .bad
    | _ => .bad
  | _ => .bad
end Fm
set_option Elab.async false
set_option linter.all false
set_option maxRecDepth 100000
namespace Fm
open PySem PySem.Spec L2 PySem.W PyProof.Rows
section
variable {K : PySem.W.Frag} {ρ : List Addr} {H : Hp} {hd : Hd}
theorem RH.allocD (r : RH K ρ H hd) {p : Addr} {l : List (Int × D)} (hp : RC K ρ H (.dct l) p) (hn : p ∉ ρ) : RH K (ρ ++ [p]) H (hd ++ [.dct l]) := by
  have k : Kp ρ H (ρ ++ [p]) H := ⟨fun n a e => by rw [List.getElem?_append_left (List.getElem?_eq_some_iff.mp e).1]; exact e, fun _ _ h => h, fun _ _ _ h => h⟩
  refine ⟨by simp [r.len], ?_, fun n c a h1 h2 => ?_⟩
  · rw [List.nodup_append]
    exact ⟨r.nd, by simp, fun a ha b hb => by simp at hb; subst hb; intro e; subst e; exact hn ha⟩
  · by_cases hlt : n < hd.length
    · rw [List.getElem?_append_left hlt] at h1
      rw [List.getElem?_append_left (by rw [r.len]; exact hlt)] at h2
      exact (r.cel n c a h1 h2).mono k rfl
    · have e1 : n = hd.length := by
        have := (List.getElem?_eq_some_iff.mp h1).1
        simp at this
        omega
      subst e1
      simp at h1
      subst h1
      rw [← r.len] at h2
      simp at h2
      subst h2
      obtain ⟨kvs, q1, q2, q3⟩ := hp
      exact ⟨kvs, q1, q2, q3.mono k⟩
theorem RH.writeD (r : RH K ρ H hd) {n : Nat} {p : Addr} {l : List (Int × D)} {kvs : List (Key × V)} (hp : ρ[n]? = some p) (hn : n < hd.length) (h1 : kvs.map (·.1) = l.map (fun p => (Sum.inl p.1 : Key))) (h2 : RDs K ρ H (l.map (·.2)) (kvs.map (·.2))) : RH K ρ (upd H p (.dK kvs)) (hd.set n (.dct l)) := by
  have k : Kp ρ H ρ (upd H p (.dK kvs)) := by
    have hm := List.mem_of_getElem? hp
    refine ⟨fun _ _ h => h, fun a us e => ?_, fun a o u e => ?_⟩
    · rw [upd_ne (fun z => r.noTup e (by rw [z]; exact hm))]; exact e
    · rw [upd_ne (fun z => r.noFrz e (by rw [z]; exact hm))]; exact e
  refine ⟨by simp [r.len], r.nd, fun m c a q1 q2 => ?_⟩
  by_cases e : n = m
  · subst e
    rw [List.getElem?_set_self hn] at q1
    cases q1
    rw [hp] at q2
    cases q2
    exact ⟨kvs, upd_same, h1, h2.mono k⟩
  · rw [List.getElem?_set_ne e] at q1
    have ne : a ≠ p := fun z => by
      subst z
      exact e (nodup_at r.nd hp q2)
    exact (r.cel m c a q1 q2).mono k (upd_ne ne)
theorem dval_rel (k : Int) : ∀ {l : List (Int × D)} {kvs : List (Key × V)}, kvs.map (·.1) = l.map (fun p => (Sum.inl p.1 : Key)) → RDs K ρ H (l.map (·.2)) (kvs.map (·.2)) →
    (dval l k = none ∧ valV kvs (Sum.inl k) = none) ∨ ∃ d v, dval l k = some d ∧ valV kvs (Sum.inl k) = some v ∧ RD K ρ H d v
  | [], [], _, _ => .inl ⟨rfl, rfl⟩
  | [], _ :: _, h, _ => by simp at h
  | _ :: _, [], h, _ => by simp at h
  | (j, d) :: l, (kk, v) :: kvs, h1, h2 => by
    simp only [List.map_cons, List.cons.injEq] at h1
    simp only [List.map_cons, RDs] at h2
    obtain ⟨v', r', e, q1, q2⟩ := h2
    cases e
    obtain ⟨e1, e2⟩ := h1
    subst e1
    by_cases e : j = k
    · subst e
      exact .inr ⟨d, v, by simp [dval], by simp [valV], q1⟩
    · have ih := dval_rel k e2 q2
      have a1 : dval ((j, d) :: l) k = dval l k := by simp [dval, e]
      have a2 : valV ((Sum.inl j, v) :: kvs) (Sum.inl k) = valV kvs (Sum.inl k) := valV_neg (fun z => e (by cases z; rfl))
      rw [a1, a2]
      exact ih
theorem anyK_rel (k : Int) : ∀ {l : List (Int × D)} {kvs : List (Key × V)}, kvs.map (·.1) = l.map (fun p => (Sum.inl p.1 : Key)) → (kvs.any fun kv => decide (kv.1 = (Sum.inl k : Key))) = l.any fun p => decide (p.1 = k)
  | [], [], _ => rfl
  | [], _ :: _, h => by simp at h
  | _ :: _, [], h => by simp at h
  | (j, d) :: l, (kk, v) :: kvs, h1 => by
    simp only [List.map_cons, List.cons.injEq] at h1
    obtain ⟨e1, e2⟩ := h1
    subst e1
    simp [anyK_rel k e2]
theorem repl_rel (k : Int) {d0 : D} {v0 : V} (hv : RD K ρ H d0 v0) : ∀ {l : List (Int × D)} {kvs : List (Key × V)}, kvs.map (·.1) = l.map (fun p => (Sum.inl p.1 : Key)) → RDs K ρ H (l.map (·.2)) (kvs.map (·.2)) →
    (kvs.map fun kv => if kv.1 = (Sum.inl k : Key) then (kv.1, v0) else kv).map (·.1) = (l.map fun p => if p.1 = k then (p.1, d0) else p).map (fun p => (Sum.inl p.1 : Key)) ∧ RDs K ρ H ((l.map fun p => if p.1 = k then (p.1, d0) else p).map (·.2)) ((kvs.map fun kv => if kv.1 = (Sum.inl k : Key) then (kv.1, v0) else kv).map (·.2))
  | [], [], _, _ => ⟨rfl, RDs.nil⟩
  | [], _ :: _, h, _ => by simp at h
  | _ :: _, [], h, _ => by simp at h
  | (j, d) :: l, (kk, v) :: kvs, h1, h2 => by
    simp only [List.map_cons, List.cons.injEq] at h1
    simp only [List.map_cons, RDs] at h2
    obtain ⟨v', r', e, q1, q2⟩ := h2
    cases e
    obtain ⟨e1, e2⟩ := h1
    subst e1
    obtain ⟨i1, i2⟩ := repl_rel k hv e2 q2
    by_cases e : j = k
    · subst e
      simp only [List.map_cons, if_true]
      exact ⟨by rw [i1], RDs.cons hv i2⟩
    · have e' : ¬ (Sum.inl j : Key) = Sum.inl k := fun z => e (by cases z; rfl)
      simp only [List.map_cons, if_neg e, if_neg e']
      exact ⟨by rw [i1], RDs.cons q1 i2⟩
theorem dput_rel (k : Int) {d0 : D} {v0 : V} (hv : RD K ρ H d0 v0) {l : List (Int × D)} {kvs : List (Key × V)} (h1 : kvs.map (·.1) = l.map (fun p => (Sum.inl p.1 : Key))) (h2 : RDs K ρ H (l.map (·.2)) (kvs.map (·.2))) :
    (putK kvs (Sum.inl k) v0).map (·.1) = (dput l k d0).map (fun p => (Sum.inl p.1 : Key)) ∧ RDs K ρ H ((dput l k d0).map (·.2)) ((putK kvs (Sum.inl k) v0).map (·.2)) := by
  unfold putK dput
  rw [anyK_rel k h1]
  split
  · exact repl_rel k hv h1 h2
  · refine ⟨by simp [h1], ?_⟩
    rw [List.map_append, List.map_append]
    exact RDs.append h2 (RDs.cons hv RDs.nil)
end
section
variable {X : Cx} {pos p : Pos}
theorem me_dnew : ME X (.Dict [] [] pos) fDNew := by
  refine PE.imp pe_dnewK fun σ H Q zq87 => ?_
  obtain ⟨ρ, σd, hd, rs, pp⟩ := zq87
  refine fun q hq => ?_
  have sm := same_upd (o := HO.dK []) hq
  have hn := rs.hp.free hq
  have rh := (rs.hp.same sm).allocD (p := q) (l := []) ⟨[], upd_same, rfl, RDs.nil⟩ hn
  have ex : Ext ρ H (ρ ++ [q]) (upd H q (.dK [])) := Ext.alloc hq
  refine Post.at (R := rD X.K) (a := .ref hd.length) pp ex (rs.ext ex rh) ?_
  simp only [rD, RD]
  refine ⟨q, ?_, rfl⟩
  rw [← rs.hp.len]
  simp
noncomputable def rInD (K : PySem.W.Frag) : R2 := fun x y H Q => ∃ a o, y = .ref a ∧ DGet H a x o ∧ Q (.bl o.isSome) H
theorem op_inD (hu : X.A.units + 1 < cLine) : OpR X (compareOp .In) (rInD X.K) := by
  intro pins s σ H x y v u Q I rx ry h
  obtain ⟨a, o, rfl, g, q⟩ := h
  obtain rfl : u = Value.ref a := ry
  exact d_in hu I g rx fun s3 I3 => ⟨.bl o.isSome, H, I3, rfl, q⟩
theorem og_inD {K : PySem.W.Frag} : Og K oInD (rInD K) := by
  intro ρ H σd hd σ d k v w Q rs rv rw' pp
  cases d <;> try exact pp.elim
  cases k <;> try exact pp.elim
  rename_i i n
  simp only [oInD] at pp
  simp only [RD] at rv rw'
  subst rv
  obtain ⟨a, ha, rfl⟩ := rw'
  cases c : hd[n]? with
  | none => rw [c] at pp; exact pp.elim
  | some cell =>
    rw [c] at pp
    cases cell with
    | lst l => exact pp.elim
    | dct l =>
      simp only at pp
      obtain ⟨kvs, q1, q2, q3⟩ := rs.hp.cel n _ a c ha
      refine ⟨a, valV kvs (Sum.inl i), rfl, DGet.k (k := Sum.inl i) q1, ?_⟩
      have e : (valV kvs (Sum.inl i)).isSome = (dval l i).isSome := by
        rcases dval_rel i q2 q3 with ⟨e1, e2⟩ | ⟨d, v, e1, e2, _⟩ <;> rw [e1, e2] <;> rfl
      rw [e]
      exact pp.here rs (by simp only [rD, RD])
noncomputable def rSetD : V → V → V → Hp → (Hp → Prop) → Prop := fun o i v H Q => ∃ a H', o = .ref a ∧ DPut H a i v H' ∧ Q H'
theorem set_dict (hu : X.A.units + 1 < cLine) : PSet X rSetD := by
  intro pins s σ H o i v ov iv u Q I ro ri rv h
  obtain ⟨a, H', rfl, g, q⟩ := h
  obtain rfl : ov = Value.ref a := ro
  exact d_setItem hu I g ri rv fun s' I' => ⟨H', I', q⟩
theorem ms_putD {o i e : Expr} {fo fi fe : EF} {p2 : Pos} (hu : X.A.units + 1 < cLine) (he : ME X e fe) (ho : ME X o fo) (hi : ME X i fi) (hs : swapsWithSole [.Subscript o i p2] e pos.line X.env = pure false := by rfl) (hw : swappedStores [.Subscript o i p2] e X.env = pure none := by rfl)
    (h1 : (assignEach [.Subscript o i p2] X.env).map (·.2) = [assign (.Subscript o i p2) X.env] := by rfl) (ha : ∀ v, assign (.Subscript o i p2) X.env v = (do
      let ov ← holding [v] (eval o X.env)
      let iv ← holding [v, ov] (eval i X.env)
      standAt p2
      holding [v, ov, iv] (setItem ov iv v)
      release [v, ov, iv] []) := by intro _; rfl) : MS X (.Assign [.Subscript o i p2] e pos) (sPutD fo fi fe) := by
  refine PS.imp (ps_asg he (pg_sub ho hi (set_dict hu) ha) hs hw h1) fun En σ H zq88 => ?_
  obtain ⟨ρ, σd, hd, rs, p⟩ := zq88
  refine ⟨ρ, σd, hd, rs, ?_⟩
  refine (PostS.outE p).imp fun v H1 zq89 => ?_
  obtain ⟨ρ1, d, hd1, e1, rs1, rv, p1⟩ := zq89
  refine ?_
  refine ⟨ρ1, σd, hd1, rs1, ?_⟩
  refine (PostS.outE p1).imp fun vo H2 zq90 => ?_
  obtain ⟨ρ2, dO, hd2, e2, rs2, ro, p2⟩ := zq90
  refine ?_
  refine ⟨ρ2, σd, hd2, rs2, ?_⟩
  refine (PostS.outE p2).imp fun vi H3 zq91 => ?_
  obtain ⟨ρ3, di, hd3, e3, rs3, ri, p3⟩ := zq91
  refine ?_
  have rv3 := (rv.mono (rs1.hp.kp e2)).mono (rs2.hp.kp e3)
  have ro3 := ro.mono (rs2.hp.kp e3)
  cases dO with
  | ref n =>
    cases di with
    | int j =>
      simp only at p3
      cases c : hd3[n]? with
      | none => rw [c] at p3; exact p3.elim
      | some cell =>
        rw [c] at p3
        cases cell with
        | lst l => exact p3.elim
        | dct l =>
          simp only at p3
          split at p3
          · rename_i hz
            simp only [RD] at ro3 ri
            subst ri
            obtain ⟨a, ha, rfl⟩ := ro3
            obtain ⟨kvs, q1, q2, q3⟩ := rs3.hp.cel n _ a c ha
            have hl : kvs.length = l.length := by have := congrArg List.length q2; simpa using this
            refine ⟨a, _, rfl, DPut.k (k := Sum.inl j) q1 (by rw [hl]; exact Nat.lt_of_lt_of_le hz (by rw [sizeLine_eq]; decide)), ?_⟩
            have hn : n < hd3.length := (List.getElem?_eq_some_iff.mp c).1
            obtain ⟨u1, u2⟩ := dput_rel j rv3 q2 q3
            have rh := rs3.hp.writeD ha hn u1 u2
            have ex : Ext ρ3 H3 ρ3 (upd H3 a (.dK (putK kvs (Sum.inl j) v))) := Ext.write (List.mem_of_getElem? ha)
            exact p3 σ _ ρ3 ex (rs3.ext ex rh)
          · exact p3.elim
    | _ => exact p3.elim
  | _ => exact p3.elim
end
end Fm
set_option Elab.async false
set_option linter.all false
set_option maxRecDepth 100000
namespace Fm
open PySem PySem.Spec L2 PySem.W PyProof.Rows
section
variable {X : Cx} {pos p : Pos}
theorem kat_tups2 {P : Program} {w : World} {H : Hp} {h h' : Heap} (hok : HOk P w H h) (hk : ∀ b o xs, H b = some (.tup xs) → h.get? b = some o → h'.get? b = some o) : ∀ {vs : List V} {rs : List (List Int)} {its : List Value}, RowsV H vs rs → Vals vs its → (rs.all fun x => !x.isEmpty) = true →
    ∃ fs, KatTups h' its fs ∧ fs.length = its.length ∧ ∀ v ∈ fs, ∃ i t, v = Value.int i t := by
  intro vs rs its rvs
  induction rvs generalizing its with
  | nil =>
    intro hv _
    cases hv
    exact ⟨[], .nil, rfl, fun v hv => by cases hv⟩
  | @cons a r vs rs ha t ih =>
    intro hv hne
    cases hv with
    | cons rv rt =>
      simp only [List.all_cons, Bool.and_eq_true, Bool.not_eq_true'] at hne
      obtain ⟨fs, h1, h2, h3⟩ := ih rt hne.2
      obtain ⟨z, its0, r0, o, ho, hc, n, hd⟩ := hok a _ ha
      cases r with
      | nil => simp at hne
      | cons i r =>
        cases r0 with
        | cons q0 qr =>
          rename_i u us
          obtain ⟨tk, rfl⟩ := rel_int q0
          cases rv
          refine ⟨.int i tk :: fs, KatTups.cons (hk a o _ ha ho) hc hd (by simp) h1, by simp [h2], fun v hv => ?_⟩
          rcases List.mem_cons.mp hv with rfl | hv
          · exact ⟨i, tk, rfl⟩
          · exact h3 v hv
theorem lsortG {pins : List (Addr × Obj)} {σ : L2.St} {H : Hp} {s : Shared} {B : Addr} {vs : List V} {rs : List (List Int)} {A : Around} {E : Value → Shared → Prop} {Q : Value → Shared → Prop} (I : Inv X pins σ H s) (hB : H B = some (.lst vs)) (h64 : vs.length < 64) (rv : RowsV H vs rs) (nd : rs.Nodup) (hne : (rs.all fun x => !x.isEmpty) = true)
    (q : ∀ vs' s', RowsV H vs' (sortRows rs) → Inv X pins σ (upd H B (.lst vs')) s' → Q .none s') : wpAny (model X.prog X.w) A (call (.builtin "list.sort") [.ref B]) Q E s := by
  obtain ⟨hz, its, n0, rvs, ho⟩ := I.hok B _ hB
  have hlen : its.length = vs.length := rvs.length.symm
  obtain ⟨m, hm, _⟩ := id I.loc
  have nL : ∀ b u, H b = some u → b ≠ X.env.locals := fun b u e z => by rw [z, I.free] at e; cases e
  have BL := nL B _ hB
  have selfUpd : ∀ vs', vs' = vs → upd H B (.lst vs') = H := fun vs' e => by
    subst e
    funext b
    by_cases z : b = B
    · subst z; rw [upd_same, hB]
    · rw [upd_ne z]
  have after : ∀ (h2 : Heap) (its' : List Value) (vs' : List V) (c t' : Nat), RowsV H vs' (sortRows rs) → Vals vs' its' → vs'.length ≤ sizeLine → h2.get? B = some (PySem.W.listOf its'.toArray c) → (∀ b o, b ≠ X.env.locals → b ≠ B → s.heap.get? b = some o → h2.get? b = some o) → h2.Ns X.env.locals m → Inv X pins σ (upd H B (.lst vs')) { s with heap := h2, toks := t' } := fun h2 its' vs' c t' rv' rvs' hz' hB2 keep2 ns2 => by
    have I2 : L2.Inv X pins σ (upd H B (.lst vs')) { s with heap := h2, gens := s.gens, drawn := s.drawn, toks := t' } := by
      refine I.step (g' := s.gens) (d' := s.drawn) (t' := t') (ch := []) (fun _ z => nomatch z) (fun b o hb _ _ e n => keep2 b o hb (fun z => by subst z; rw [hB] at n; cases n) e) (fun b o hb _ _ e n => ⟨o.slots, keep2 b o hb (fun z => by subst z; rw [hB] at n; cases n) e⟩) (fun b o _ e n => by rw [upd_ne (fun z => by subst z; rw [hB] at n; cases n)]; exact n) (fun b o _ e => ?_)
        (fun b ys e => by rw [upd_ne (fun z => by subst z; rw [hB] at e; cases e)]; exact e) (fun b o u e => by rw [upd_ne (fun z => by subst z; rw [hB] at e; cases e)]; exact e) (fun b ps e => ⟨#[], by rw [upd_ne (fun z => by subst z; rw [hB] at e; cases e), e]; simp⟩) (fun m' hm' => by rw [ns_one hm' hm]; exact ns2) (fun b u e => ?_) I.bare
      · by_cases hb : b = X.env.locals
        · obtain ⟨o', _, _, ho', _⟩ := ns2
          rw [hb]; exact ⟨o', ho'⟩
        · by_cases hb2 : b = B
          · subst hb2; exact ⟨_, hB2⟩
          · exact ⟨o, keep2 b o hb hb2 e⟩
      · by_cases hb : b = B
        · subst hb
          rw [upd_same] at e
          cases e
          exact ⟨hz', its', c, rvs', hB2⟩
        · rw [upd_ne hb] at e
          refine (I.hok b u e).stay (fun c v hc z => ?_) (fun c z => by rw [upd_ne (fun y => by subst y; rw [hB] at z; cases z)]; exact z) fun c ys z => by rw [upd_ne (fun y => by subst y; rw [hB] at z; cases z)]; exact z
          rcases hc with w | w
          · subst w; exact keep2 c v (nL c _ e) hb z
          · exact keep2 c v (nL c _ w) (fun y => by subst y; rw [hB] at w; cases w) z
    exact I2
  by_cases h2 : its.length < 2
  · have hs : sortRows rs = rs := by
      have : rs.length < 2 := by rw [← rv.length]; omega
      match rs, this with
      | [], _ => rfl
      | [_], _ => rfl
    have ha : B < s.heap.objs.size := Heap.lt_size ho
    have ho' : s.heap.get? B = some (seqObj "list" its.toArray n0) := ho
    refine wpAny_call_entry slot_list_sort ⟨_, ho, rfl⟩ entry_list_sort (sort_short ho' h2 ⟨_, rfl, ?_⟩) (args_list_sort _)
    obtain ⟨e1, ho1⟩ : ∃ e1, (s.heap.update B (Obj.mapSeq fun _ => #[])).get? B = some (seqObj "list" #[] e1) := ⟨_, get?_update_seq ho' (fun _ => #[])⟩
    have ho6 : (((s.heap.update B (Obj.mapSeq fun _ => #[])).push (seqObj "tuple" its.toArray 0)).push (seqObj "list" #[] 0)).get? B = some (seqObj "list" #[] e1) := by
      rw [Heap.get?_push_ne _ _ _ (by rw [size_push', Heap.size_update]; exact Nat.ne_of_lt (Nat.lt_succ_of_lt ha)), Heap.get?_push_ne _ _ _ (by rw [Heap.size_update]; exact Nat.ne_of_lt ha)]
      exact ho1
    have keepS : ∀ b o, b ≠ B → s.heap.get? b = some o → (sortedHeap s.heap B its its.toArray).get? b = some o := fun b o hb e => by
      have hlt : b < s.heap.objs.size := Heap.lt_size e
      unfold sortedHeap
      rw [Heap.get?_update_ne _ _ _ _ hb, Heap.get?_push_ne _ _ _ (by rw [size_push', Heap.size_update]; exact Nat.ne_of_lt (Nat.lt_succ_of_lt hlt)), Heap.get?_push_ne _ _ _ (by rw [Heap.size_update]; exact Nat.ne_of_lt hlt), Heap.get?_update_ne _ _ _ _ hb]
      exact e
    have ns2 : (sortedHeap s.heap B its its.toArray).Ns X.env.locals m := by
      obtain ⟨o', es, ep, h1, r⟩ := hm
      exact ⟨o', es, ep, keepS _ _ (Ne.symm BL) h1, r⟩
    refine q vs _ (by rw [hs]; exact rv) (after _ its vs _ s.toks (by rw [hs]; exact rv) rvs hz (get?_update_seq ho6 _) (fun b o _ hb e => keepS b o hb e) ns2)
  · have N0 : News (Att.noObjs s.heap) X.env.locals s.heap ((B, PySem.W.listOf its.toArray n0) :: Att.ledger s.heap X.env.locals B) := fun ⟨b, o⟩ hb => by
      rcases List.mem_cons.mp hb with e | hb
      · cases e
        exact ⟨ho, BL, Att.noObjs_get _ _⟩
      · obtain ⟨n1, n2, e⟩ := Att.mem_ledger.mp hb
        exact ⟨e, n1, Att.noObjs_get _ _⟩
    have hDn : ∀ q ∈ Att.ledger s.heap X.env.locals B, q.1 ≠ B := fun ⟨b, o⟩ hq => (Att.mem_ledger.mp hq).2.1
    refine kat_lsort (vs := its) (Att.fr_all hm) N0 (UpdF.head hDn) (by simp) (by omega) (by omega) fun e1 h' F' N' => ?_
    have inN : ∀ b o, b ≠ X.env.locals → b ≠ B → s.heap.get? b = some o → (b, o) ∈ Att.ledger s.heap X.env.locals B := fun b o hb hb2 e => Att.mem_ledger.mpr ⟨hb, hb2, e⟩
    have keep' : ∀ b o, b ≠ X.env.locals → b ≠ B → s.heap.get? b = some o → h'.get? b = some o := fun b o hb hb2 e => (N' (b, o) (List.mem_cons_of_mem _ (inN b o hb hb2 e))).1
    obtain ⟨fs, t1, t2, t3⟩ := kat_tups2 I.hok (h' := h') (fun b o xs hb e => keep' b o (nL b _ hb) (fun z => by subst z; rw [hB] at hb; cases hb) e) rv rvs hne
    refine kat_kind (s := { s with heap := h' }) (T := .type "int") t1 (by omega) (fun v hv => ?_) rfl ?_
    · obtain ⟨i, t, rfl⟩ := t3 v hv
      exact Looks.of_pure rfl
    · have hT : (Value.type "int" != Value.type "tuple") = true := by decide
      rw [hT]
      have hrl : rs.length = its.length := by rw [← rv.length, hlen]
      have dif : ∀ i j, i < its.length → j < its.length → i ≠ j → rs.getD i [] ≠ rs.getD j [] := fun i j hi hj hij z => by
        have e1 : rs.getD i [] = rs[i]'(by omega) := by simp [List.getD, show i < rs.length by omega]
        have e2 : rs.getD j [] = rs[j]'(by omega) := by simp [List.getD, show j < rs.length by omega]
        rw [e1, e2] at z
        exact hij ((List.getElem_inj nd).mp z)
      have O : Ord (fun i j => Fm.lexLt (rs.getD i []) (rs.getD j [])) its.length := ⟨fun i j _ _ h => lexLt_asymm h, fun i j k _ _ _ h h' => lexLt_trans h h', fun i j hi hj hij h => lexLt_tot (dif i j hi hj hij) h⟩
      refine kas_sort_ok O (fun i j hi hj C hC => ?_) (by omega) fun pp g srt => ?_
      · unfold kas_ask
        have at' : ∀ i, i < its.length → ∃ b, its.getD i Value.none = .ref b ∧ ∃ (o : Obj) (zs : List Value) (n : Nat), h'.get? b = some o ∧ o.data = .seq zs.toArray n ∧ IntsAre zs (rs.getD i []) := fun i hi => by
          have hv : vs[i]? = some (vs[i]'(by omega)) := by simp [show i < vs.length by omega]
          obtain ⟨b, e1, e2⟩ := rv.get hv
          obtain ⟨u, hu, ru⟩ := rvs.get hv
          rw [e1] at ru
          cases (show u = Value.ref b from ru)
          obtain ⟨z, zs, r0, o, ho, hc, n, hd⟩ := I.hok b _ e2
          exact ⟨b, by simp [List.getD, hu], o, zs, n, keep' b o (nL b _ e2) (fun z => by subst z; rw [hB] at e2; cases e2) ho, hd, intsAre_of r0⟩
        obtain ⟨b1, x1, o1, z1, n1, y1, d1, i1⟩ := at' i hi
        obtain ⟨b2, x2, o2, z2, n2, y2, d2, i2⟩ := at' j hj
        rw [x1, x2]
        refine kat_lt (s := { s with heap := h' }) y1 d1 y2 d2 ?_
        have := lex_wp (prog := X.prog) (w := X.w) (A := A.in1) (s := { s with heap := h' }) (Q := C) (rs.getD i []) (rs.getD j []) 0 i1 i2 hC
        simpa using this
      · have pmL : pp.toList.Perm (List.range its.length) := by simpa using Array.perm_iff_toList_perm.mp g.pm
        have inR : ∀ i ∈ pp.toList, i < vs.length := fun i hi => by
          have := pmL.mem_iff.mp hi
          rw [← hlen]; simpa using this
        obtain ⟨vs', hvs'⟩ : ∃ vs', vs' = pp.toList.map fun i => vs.getD i .non := ⟨_, rfl⟩
        obtain ⟨its', hits'⟩ : ∃ its', its' = pp.toList.map fun i => its.getD i Value.none := ⟨_, rfl⟩
        have rv' : RowsV H vs' (sortRows rs) := by
          have e : (pp.toList.map fun i => rs.getD i []) = sortRows rs := by
            refine rises_one (?_ : List.Perm _ _) ?_ (sortRows_rises nd)
            · refine ((pmL.map fun i => rs.getD i []).trans ?_).trans (sortRows_perm rs).symm
              have : ((List.range its.length).map fun i => rs.getD i []) = rs := by
                apply List.ext_getElem?
                intro i
                by_cases hi : i < rs.length
                · have : i < its.length := by omega
                  simp [List.getD, hi, this]
                · have : ¬ i < its.length := by omega
                  simp [hi, this]
              rw [this]
            · rw [List.pairwise_map]
              rw [List.pairwise_iff_getElem]
              intro i j hi hj hij
              have s1 := srt i j hij (by rw [← g.sz]; simpa using hj)
              have g1 : pp.getD i 0 = pp.toList[i] := by simp [Array.getD, show i < pp.size by simpa using hi]
              have g2 : pp.getD j 0 = pp.toList[j] := by simp [Array.getD, show j < pp.size by simpa using hj]
              rw [g1, g2] at s1
              exact s1
          have := rv.pick pp.toList inR
          rw [e, ← hvs'] at this
          exact this
        have rvs' : Vals vs' its' := by rw [hvs', hits']; exact Vals.pick rvs pp.toList inR
        have hz' : vs'.length ≤ sizeLine := by
          have l1 : vs'.length = its.length := by rw [hvs', List.length_map, pmL.length_eq, List.length_range]
          rw [l1, hlen]; exact hz
        rw [← hits']
        refine KasFin.intro F' N' (UpdF.head hDn) fun h2 c F2 N2 => ?_
        have hD2 : h2.get? B = some (PySem.W.listOf its'.toArray c) := (N2 (B, _) (List.mem_cons_self ..)).1
        have keep2 : ∀ b o, b ≠ X.env.locals → b ≠ B → s.heap.get? b = some o → h2.get? b = some o := fun b o hb hb2 e => (N2 (b, o) (List.mem_cons_of_mem _ (inN b o hb hb2 e))).1
        exact q vs' _ rv' (after h2 its' vs' c s.toks rv' rvs' hz' hD2 keep2 F2.ns)
end
end Fm
set_option Elab.async false
set_option linter.all false
set_option maxRecDepth 100000
namespace Fm
open PySem PySem.Spec L2 PySem.W PyProof.Rows
section
variable {X : Cx} {pos p : Pos}
noncomputable def viewAt (p d : Addr) : Heap → Prop := fun h => h.get? p = some { cls := .type "dict_items", data := .fields #[.ref d] }
noncomputable def tItems (td : TE) : TE := fun σ H Q => td σ H fun x H1 => ∃ a kvs, x = .ref a ∧ H1 a = some (.dK kvs) ∧ ∀ p, H1 p = none → Q (.ref p) (upd H1 p (.ext (viewAt p a)))
theorem pe_items {o : Expr} {td : TE} {apos cpos : Pos} (ho : PE X o td) (hbase : attributeBase o "items" X.env (eval o X.env) = eval o X.env := by rfl) (hline : (apos.endLine == cpos.line) = true := by rfl) :
    PE X (.Call (.Attribute o "items" apos) [] [] cpos) (tItems td) := by
  intro pins s σ H Q I h
  refine wpAny_Call_method0_late hbase hline (thn (ho pins s σ H _ I h) fun v s1 zq22 => ?_)
  obtain ⟨x, H1, I1, r1, a, kvs, ex, e, q1⟩ := zq22
  refine ?_
  subst ex
  obtain rfl : v = Value.ref a := r1
  obtain ⟨t1, t2, hs⟩ := isD_at I1 (.inl ⟨kvs, .inl e⟩)
  obtain ⟨_, hd, vs, _, dd⟩ := dk_of I1.hok e
  refine ⟨"dict", "dict.items", PySem.F.plainAttrs_dict, PySem.F.slot_dict_items, PySem.F.type_dict_items, t1, t2, Calls.callWith_builtin rfl (PySem.evalArgs_none ?_)⟩
  refine call_meetsIn PySem.F.slot_dict_items t1 PySem.F.entry_dict_items (PySem.F.args_dict_items_1 _) (meets_dict_items (mixKind X.prog X.w) a hd) ⟨⟨vs, dd⟩, ?_⟩
  refine ⟨.ref s1.heap.objs.size, _, I1.laid (t' := s1.toks) (o := .ext (viewAt s1.heap.objs.size a)) (fun b ob q => Heap.get?_push_of_some _ q) (Nat.le_refl _) ⟨Heap.get?_push_size _ rfl, ⟨_, Heap.get?_push_size _ rfl⟩, fun h1 h2 f k => k _ f⟩, rfl, q1 _ (I1.hok.fresh (Nat.le_refl _))⟩
theorem inv_more {pins : List (Addr × Obj)} {σ : L2.St} {H H' : Hp} {s : Shared} {h' : Heap} {t' : Nat} (I : Inv X pins σ H s) (keep : ∀ b o, s.heap.get? b = some o → h'.get? b = some o) (sm : Same H H') (fresh : ∀ b, b < s.heap.objs.size → H' b = H b) (new : ∀ b u, s.heap.objs.size ≤ b → H' b = some u → ObjOk X.prog X.w H' h' b u ∧ ∀ c, u ≠ .own c) : Inv X pins σ H' { s with heap := h', toks := t' } := by
  have I2 : L2.Inv X pins σ H' { s with heap := h', gens := s.gens, drawn := s.drawn, toks := t' } := by
    refine I.step (g' := s.gens) (d' := s.drawn) (t' := t') (ch := []) (fun _ z => nomatch z) (fun b o _ _ _ e _ => keep b o e) (fun b o _ _ _ e _ => ⟨o.slots, keep b o e⟩) (fun b o _ e n => by rw [fresh b (Heap.lt_size e)]; exact n) (fun b o _ e => ⟨o, keep b o e⟩)
      (fun b ys e => sm _ _ e) (fun b o u e => sm _ _ e) (fun b ps e => ⟨#[], by rw [sm _ _ e]; simp⟩) (fun m hm => ?_) (fun b u e => ?_) I.bare
    · obtain ⟨o', es, ep, h1, r⟩ := hm
      exact ⟨o', es, ep, keep _ _ h1, r⟩
    · by_cases hb : b < s.heap.objs.size
      · rw [fresh b hb] at e
        refine (I.hok b u e).stay (fun c v hc z => keep c v z) (fun c z => sm _ _ z) fun c ys z => sm _ _ z
      · exact (new b u (Nat.le_of_not_lt hb) e).1
  exact I2
noncomputable def ov : List Addr → List (List Int) → Hp → Hp
  | a :: as, r :: rs, H => upd (ov as rs H) a (.tup (r.map V.int))
  | _, _, H => H
theorem ov_ne {b : Addr} {H : Hp} : ∀ {as : List Addr} {rs : List (List Int)}, b ∉ as → ov as rs H b = H b
  | [], _, _ => rfl
  | a :: as, [], _ => rfl
  | a :: as, r :: rs, h => by
    have h1 : b ≠ a := fun z => h (by simp [z])
    have h2 : b ∉ as := fun z => h (by simp [z])
    show upd _ _ _ b = _
    rw [upd_ne h1, ov_ne h2]
theorem ov_at {H : Hp} : ∀ {as : List Addr} {rs : List (List Int)} {j : Nat} {a : Addr} {r : List Int}, as.Nodup → as[j]? = some a → rs[j]? = some r → ov as rs H a = some (.tup (r.map V.int))
  | [], _, _, _, _, _, e, _ => by simp at e
  | a :: as, [], _, _, _, _, _, e => by simp at e
  | a :: as, r :: rs, 0, _, _, _, e, e' => by simp at e e'; subst e e'; exact upd_same
  | a :: as, r :: rs, j + 1, b, q, nd, e, e' => by
    obtain ⟨n1, n2⟩ := List.nodup_cons.mp nd
    have e : as[j]? = some b := by simpa using e
    have hb : b ≠ a := fun z => n1 (by rw [← z]; exact List.mem_of_getElem? e)
    show upd _ _ _ b = _
    rw [upd_ne hb]
    exact ov_at n2 e (by simpa using e')
theorem RowsV.mono {H H' : Hp} (k : ∀ a xs, H a = some (.tup xs) → H' a = some (.tup xs)) : ∀ {vs : List V} {rs : List (List Int)}, RowsV H vs rs → RowsV H' vs rs
  | _, _, .nil => .nil
  | _, _, .cons h t => .cons (k _ _ h) (RowsV.mono k t)
theorem ov_rows {H' : Hp} : ∀ {as : List Addr} {rs : List (List Int)}, as.length = rs.length → (∀ (j : Nat) a r, as[j]? = some a → rs[j]? = some r → H' a = some (.tup (r.map V.int))) → RowsV H' (as.map V.ref) rs
  | [], [], _, _ => .nil
  | [], _ :: _, h, _ => by simp at h
  | _ :: _, [], h, _ => by simp at h
  | a :: as, r :: rs, h, f => .cons (f 0 a r rfl rfl) (ov_rows (by simpa using h) fun j b q e e' => f (j + 1) b q (by simpa using e) (by simpa using e'))
noncomputable def rSortI : List V → Hp → VK → Prop := fun xs H Q => ∃ (p a : Addr) (ps : List (Int × Int)), xs = [.ref p] ∧ H p = some (.ext (viewAt p a)) ∧ H a = some (.dK (ps.map fun q => ((Sum.inl q.1 : Key), V.int q.2))) ∧ ps.length < 64 ∧ (ps.map fun q => [q.1, q.2]).Nodup ∧
  ∀ H' q vs', Same H H' → H q = none → H' q = some (.lst vs') → RowsV H' vs' (sortRows (ps.map fun q => [q.1, q.2])) → Q (.ref q) H'
theorem kv_at {κ : Type} {kvs : List (κ × V)} {vs : List (κ × Value)} (r : KV kvs vs) : ∀ {j : Nat} {k : κ} {x : Value} {k' : κ} {v : V}, vs[j]? = some (k, x) → kvs[j]? = some (k', v) → k' = k ∧ RelV v x := by
  induction r with
  | nil => intro j k x k' v e; simp at e
  | cons h t ih =>
    intro j k x k' v e e'
    cases j with
    | zero => simp at e e'; subst e e'; exact h
    | succ j => exact ih (by simpa using e) (by simpa using e')
theorem call_sortI (hc : X.calm = true) : CallR X (.builtin "sorted") rSortI := by
  intro pins s σ H xs us Q I r h
  obtain ⟨p, a, ps, rfl, hp, ha, h64, nd, q⟩ := h
  obtain ⟨u, rfl, ru⟩ := Vals.one r
  cases (show u = Value.ref p from ru)
  obtain ⟨rs, hrs⟩ : ∃ rs, rs = ps.map fun q => [q.1, q.2] := ⟨_, rfl⟩
  rw [← hrs] at nd q
  have view : viewAt p a s.heap := (I.hok p _ hp).1
  obtain ⟨hz, _, vs, rel, dd⟩ := dk_of I.hok ha
  have lv : vs.length = ps.length := by rw [← rel.length]; simp
  obtain ⟨o, es, ep, d1, d2⟩ := id dd
  have dat : s.heap.DictAt (mixKind X.prog X.w) a vs ep := ⟨o, es, d1, d2⟩
  refine Calls.call_function_entry kind_sorted plain_sorted entry_sorted (args_sorted1 _) ?_
  unfold Builtin.«sorted»
  refine wpAny_bind (m := checkCount "sorted" 1 1 _) (wpAny_pure ?_)
  refine wpAny_bind (kdx_collect (A := X.A.in1) (knd := mixKind X.prog X.w) (kvs := vs) (ep := ep) (I.ok.hd hc) ⟨_, view, rfl, rfl⟩ dat (by rw [lv, sizeLine_eq]; omega) fun h' tk as hk hl hG => ?_)
  have ndA : as.Nodup := hG.rise.imp fun h => Nat.ne_of_lt h
  have lr : as.length = rs.length := by rw [hl, lv, hrs]; simp
  have newA : ∀ b ∈ as, s.heap.objs.size ≤ b := fun b hb => Nat.le_of_lt (hG.above b hb)
  have sm : Same H (ov as rs H) := fun b u e => by
    rw [ov_ne]
    · exact e
    · intro z
      exact absurd (I.hok.lt e) (Nat.not_lt.mpr (newA b z))
  have I1 : Inv X pins σ (ov as rs H) { s with heap := h', toks := tk } := by
    refine inv_more I hk sm (fun b hb => ov_ne fun z => absurd hb (Nat.not_lt.mpr (newA b z))) fun b u hb e => ?_
    by_cases hm : b ∈ as
    · obtain ⟨j, hj⟩ := List.getElem?_of_mem hm
      have hjl : j < as.length := (List.getElem?_eq_some_iff.mp hj).1
      obtain ⟨key, k, x, e1, e2, e3⟩ := hG.pairs j b hj
      obtain ⟨pq, hpq⟩ : ∃ pq, ps[j]? = some pq := ⟨ps[j]'(by omega), by simp [show j < ps.length by omega]⟩
      have hr : rs[j]? = some [pq.1, pq.2] := by rw [hrs, List.getElem?_map, hpq]; rfl
      rw [ov_at ndA hj hr] at e
      cases e
      refine ⟨?_, fun c z => by cases z⟩
      obtain ⟨hkk, rx⟩ := kv_at rel e1 (show (ps.map fun q => ((Sum.inl q.1 : Key), V.int q.2))[j]? = some (Sum.inl pq.1, V.int pq.2) by rw [List.getElem?_map, hpq]; rfl)
      obtain ⟨t, rfl⟩ := rel_int rx
      subst hkk
      have : ∃ t', key = Value.int pq.1 t' := Value.isInt_shape e2
      obtain ⟨t', rfl⟩ := this
      exact ⟨by simp [sizeLine_eq], [_, _], .cons ⟨t', rfl⟩ (.cons ⟨t, rfl⟩ .nil), _, e3, rfl, _, rfl⟩
    · rw [ov_ne hm] at e
      exact absurd (I.hok.lt e) (Nat.not_lt.mpr hb)
  refine wpAny_bind (wpAny_newList ?_ (by rw [List.length_map, hl, lv, sizeLine_eq]; omega))
  have rvA : Vals (as.map V.ref) (as.map Value.ref) := by
    clear hl hG ndA lr newA sm I1 q
    induction as with
    | nil => exact .nil
    | cons a as ih => exact .cons rfl ih
  have I2 : Inv X pins σ (upd (ov as rs H) h'.objs.size (.lst (as.map V.ref))) { s with heap := h'.push { cls := .type "list", data := .seq (as.map Value.ref).toArray }, toks := tk } := I1.lnew (t' := tk) rvA (by rw [List.length_map, hl, lv, sizeLine_eq]; omega)
  have fr : ov as rs H h'.objs.size = none := I1.hok.fresh (Nat.le_refl _)
  have sm2 : Same (ov as rs H) (upd (ov as rs H) h'.objs.size (.lst (as.map V.ref))) := same_upd fr
  have rowsA : RowsV (upd (ov as rs H) h'.objs.size (.lst (as.map V.ref))) (as.map V.ref) rs := ov_rows lr fun j b r e e' => sm2 _ _ (ov_at ndA e e')
  have hne : (rs.all fun x => !x.isEmpty) = true := by rw [hrs, List.all_map, List.all_eq_true]; intro q _; rfl
  refine wpAny_bind (wpAny_holding (lsortG (A := X.A.in1) I2 upd_same (by rw [List.length_map, hl, lv]; exact h64) rowsA nd hne fun vs' s' rv' I3 => wpAny_pure ⟨_, rfl, ?_⟩))
  have uu : upd (upd (ov as rs H) h'.objs.size (.lst (as.map V.ref))) h'.objs.size (.lst vs') = upd (ov as rs H) h'.objs.size (.lst vs') := by
    funext b
    by_cases z : b = h'.objs.size
    · subst z; rw [upd_same, upd_same]
    · rw [upd_ne z, upd_ne z, upd_ne z]
  rw [uu] at I3
  refine ⟨.ref h'.objs.size, _, I3, rfl, q _ _ vs' (fun b u e => same_upd fr _ _ (sm _ _ e)) ?_ upd_same ?_⟩
  · cases e : H h'.objs.size with
    | none => rfl
    | some u => rw [sm _ _ e] at fr; cases fr
  · refine rv'.mono fun b ys e => ?_
    have hb : b ≠ h'.objs.size := fun z => by subst z; rw [upd_same] at e; cases e
    rw [upd_ne hb] at e ⊢
    exact e
theorem itemRows_of : ∀ {l : List (Int × D)} {r : List (List Int)}, itemRows l = some r → ∃ ps : List (Int × Int), l = ps.map (fun q => (q.1, D.int q.2)) ∧ r = ps.map fun q => [q.1, q.2]
  | [], r, e => by simp only [itemRows] at e; cases e; exact ⟨[], rfl, rfl⟩
  | (k, d) :: l, r, e => by
    cases d <;> simp only [itemRows] at e <;> try (cases e; done)
    rename_i v
    cases c : itemRows l with
    | none => rw [c] at e; cases e
    | some r' =>
      rw [c] at e
      cases e
      obtain ⟨ps, rfl, rfl⟩ := itemRows_of c
      exact ⟨(k, v) :: ps, rfl, rfl⟩
theorem kvs_of {K : PySem.W.Frag} {ρ : List Addr} {H : Hp} : ∀ {ps : List (Int × Int)} {kvs : List (Key × V)}, kvs.map (·.1) = (ps.map fun q => (q.1, D.int q.2)).map (fun p => (Sum.inl p.1 : Key)) → RDs K ρ H ((ps.map fun q => (q.1, D.int q.2)).map (·.2)) (kvs.map (·.2)) → kvs = ps.map fun q => ((Sum.inl q.1 : Key), V.int q.2)
  | [], [], _, _ => rfl
  | [], _ :: _, h, _ => by simp at h
  | _ :: _, [], h, _ => by simp at h
  | (j, d) :: ps, (kk, v) :: kvs, h1, h2 => by
    simp only [List.map_cons, List.cons.injEq] at h1
    simp only [List.map_cons, RDs] at h2
    obtain ⟨v', r', e, q1, q2⟩ := h2
    cases e
    obtain ⟨e1, e2⟩ := h1
    subst e1
    simp only [RD] at q1
    subst q1
    rw [kvs_of e2 q2]
    rfl
theorem mf_sortI {o : Expr} {fo : EF} {apos cpos : Pos} (hc : X.calm = true) (hg : Gl X "sorted") (hm : X.mg "sorted" = none) (ho : ME X o fo)
    (hs : starEach [.Call (.Attribute o "items" apos) [] [] cpos] X.env = (false, eval (.Call (.Attribute o "items" apos) [] [] cpos) X.env) :: starEach [] X.env := by rfl)
    (hbase : attributeBase o "items" X.env (eval o X.env) = eval o X.env := by rfl) (hline : (apos.endLine == cpos.line) = true := by rfl) :
    MF X (.Call (.Name "sorted" p) [.Call (.Attribute o "items" apos) [] [] cpos] [] pos) (lSortI fo) := by
  refine PE.imp (pe_callB (call_sortI hc) hg hm (by decide +kernel) (pa_cons (pe_items ho hbase hline) pa_nil hs) (he := hs)) fun σ H Q zq92 => ?_
  obtain ⟨ρ, σd, hd, rs, pp⟩ := zq92
  refine ⟨ρ, σd, hd, rs, ?_⟩
  unfold lSortI at pp
  cases e : fo σd hd with
  | exc x h' => rw [e] at pp; exact pp
  | bad => rw [e] at pp; exact pp
  | ok d hd1 =>
    rw [e] at pp
    simp only [bind_ok] at pp
    intro v H1 ρ1 e1 rs1 rv
    cases d <;> try exact pp.elim
    rename_i n
    simp only at pp
    simp only [rD, RD] at rv
    obtain ⟨a, ha, rfl⟩ := rv
    cases c : hd1[n]? with
    | none => rw [c] at pp; exact pp.elim
    | some cell =>
      rw [c] at pp
      cases cell with
      | lst l => exact pp.elim
      | dct l =>
        simp only at pp
        cases c2 : itemRows l with
        | none => rw [c2] at pp; exact pp.elim
        | some r =>
          rw [c2] at pp
          simp only at pp
          split at pp
          · rename_i hz
            obtain ⟨ps, rfl, rfl⟩ := itemRows_of c2
            obtain ⟨kvs, q1, q2, q3⟩ := rs1.hp.cel n _ a c ha
            have hk := kvs_of q2 q3
            subst hk
            refine ⟨a, _, rfl, q1, fun q hq => ⟨q, a, ps, rfl, upd_same, by rw [upd_ne (ne_of_none q1 hq)]; exact q1, by simpa using hz.1, hz.2, fun H' q' vs' sm hq' hl' rv' => ?_⟩⟩
            have sm1 : Same H1 H' := fun b u eb => sm _ _ (same_upd hq _ _ eb)
            have nq : q' ≠ q := fun z => by subst z; rw [upd_same] at hq'; cases hq'
            rw [upd_ne nq] at hq'
            have hn := rs1.hp.free hq'
            exact pp q' vs' H' ρ1 (e1.trans (Ext.same sm1)) (rs1.same sm1) (e1.fresh hq' hn) hl' hn rv'.rds
          · exact pp.elim
end
end Fm
set_option linter.all false
namespace Fm
@[simp] noncomputable def lRep (la : LF) (b : EF) : LF := fun σ h => (la σ h).bind fun l h => (b σ h).bind fun y h => match y with
  | .int n => if 0 ≤ n ∧ n ≤ 1000 ∧ l.length * n.toNat ≤ 1000 then .ok (List.replicate n.toNat l).flatten h else .bad
  | _ => .bad
@[simp] noncomputable def fMax (a b : EF) : EF := fun σ h => (a σ h).bind fun x h => (b σ h).bind fun y h => match x, y with
  | .int i, .int j => .ok (.int (if j > i then j else i)) h
  | _, _ => .bad
end Fm
set_option Elab.async false
set_option linter.all false
set_option maxRecDepth 100000
namespace Fm
open PySem PySem.Spec L2 PySem.W PyProof.Rows
section
variable {X : Cx} {pos p : Pos}
theorem bools_rel {K : PySem.W.Frag} {ρ : List Addr} {H : Hp} : ∀ {l : List D} {vs : List V} {bs : List Bool}, RDs K ρ H l vs → bools l = some bs → vs = bs.map V.bl
  | [], _, is, r, e => by simp only [bools] at e; cases e; simp only [RDs] at r; subst r; rfl
  | d :: l, _, is, r, e => by
    simp only [RDs] at r
    obtain ⟨v, vs, rfl, h1, h2⟩ := r
    cases d <;> simp only [bools] at e <;> try (cases e; done)
    rename_i i
    cases c : bools l with
    | none => rw [c] at e; cases e
    | some js =>
      rw [c] at e
      cases e
      simp only [RD] at h1
      rw [h1, bools_rel h2 c]
      rfl
theorem bools_at {bs : List Bool} {its : List Value} (r : Vals (bs.map V.bl) its) : ∀ (i : Nat) (v : Value), its.toArray[i]? = some v → v = .bool (bs.getD i false) := by
  intro i v e
  have e' : its[i]? = some v := by simpa using e
  have hi : i < bs.length := by
    have := (List.getElem?_eq_some_iff.mp e').1
    have := r.length
    simp at this
    omega
  obtain ⟨u, hu, ru⟩ := r.get (i := i) (x := V.bl bs[i]) (by simp [hi])
  rw [hu] at e'
  cases e'
  rw [show v = Value.bool bs[i] from ru]
  simp [List.getD, hi]
theorem all_getD (bs : List Bool) : (List.range bs.length).all (fun i => bs.getD i false) = bs.all id := by
  have : bs = (List.range bs.length).map fun i => bs.getD i false := by
    apply List.ext_getElem?
    intro i
    by_cases hi : i < bs.length <;> simp [List.getD, hi]
  conv => rhs; rw [this]
  rw [List.all_map]
  rfl
theorem call_allR (hc : X.calm = true) : CallR X (.builtin "all") (fun xs H Q => ∃ (p : Addr) (bs : List Bool), xs = [.ref p] ∧ (SqL X.K H p (bs.map V.bl) ∨ SqT X.K H p (bs.map V.bl)) ∧ Q (.bl (bs.all id)) H) := by
  intro pins s σ H xs us Q I r q
  obtain ⟨p, bs, rfl, sq, q⟩ := q
  obtain ⟨u, rfl, ru⟩ := Vals.one r
  cases (show u = Value.ref p from ru)
  have hA : (X.A.in1).handled = none := I.ok.hd hc
  have tr : ∀ (its : List Value), Vals (bs.map V.bl) its → TruthOf X.prog X.w X.A.in1 (fun i v => its.toArray[i]? = some v) (fun i => bs.getD i false) := fun its rv i v s Q E hP hQ => by
    rw [bools_at rv i v hP]
    exact wpAny_truthy_bool hQ
  have fin : ∀ {it : Obj} {h' : Heap} {tk : Nat} {n : Nat}, n = bs.length → (∀ b o, b ∉ [s.heap.objs.size] → (s.heap.push it).get? b = some o → h'.get? b = some o) → EP X pins σ Q (.bool ((List.range n).all fun i => bs.getD i false)) { s with heap := h', toks := tk } := by
    intro it h' tk n hn hk
    subst hn
    refine ⟨.bl (bs.all id), H, I.kept (t' := tk) fun b o e => hk b o (by simp; exact Nat.ne_of_lt (Heap.lt_size e)) (Heap.get?_push_of_some _ e), by rw [all_getD]; rfl, q⟩
  rcases sq with sq | sq
  · obtain ⟨its, rv, pl, hz⟩ := I.list sq
    have il : s.heap.IsList p its.toArray := pl.isList
    have hlt : p < s.heap.objs.size := by obtain ⟨o, ho, _⟩ := il; exact Heap.lt_size ho
    refine PySem.call_all_walk (PySem.wpAny_pyIter_list il ?_)
    refine ⟨s.heap.objs.size, _, [s.heap.objs.size], _, _, _, fun i => bs.getD i false, rfl, PySem.Walks.list hA s.heap.objs.size p (Nat.ne_of_lt hlt) its.toArray, ⟨⟨_, Heap.get?_push_size _ rfl, rfl, rfl⟩, ?_⟩, tr its rv, ?_⟩
    · obtain ⟨o, ho, r⟩ := il; exact ⟨o, Heap.get?_push_of_some _ ho, r⟩
    · exact fun h' tk hk => fin (by simpa using rv.length.symm) hk
  · obtain ⟨its, rv, pl, hz⟩ := I.tuple sq
    have il : s.heap.IsTuple p its.toArray := pl
    have hlt : p < s.heap.objs.size := by obtain ⟨o, ho, _⟩ := il; exact Heap.lt_size ho
    refine PySem.call_all_walk (PySem.wpAny_pyIter_tuple il ?_)
    refine ⟨s.heap.objs.size, _, [s.heap.objs.size], _, _, _, fun i => bs.getD i false, rfl, PySem.Walks.tuple hA s.heap.objs.size p (Nat.ne_of_lt hlt) its.toArray, ⟨⟨_, Heap.get?_push_size _ rfl, rfl, rfl⟩, ?_⟩, tr its rv, ?_⟩
    · obtain ⟨o, ho, r⟩ := il; exact ⟨o, Heap.get?_push_of_some _ ho, r⟩
    · exact fun h' tk hk => fin (by simpa using rv.length.symm) hk
theorem me_all {a : Expr} {la : LF} (hc : X.calm = true) (hg : Gl X "all") (hm : X.mg "all" = none) (ha : MQ X a la) (hs : starEach [a] X.env = (false, eval a X.env) :: starEach [] X.env := by rfl) : ME X (.Call (.Name "all" p) [a] [] pos) (fAll la) := by
  refine me_b1q (g := fun l h => match bools l with | some bs => .ok (.bl (bs.all id)) h | none => .bad) (b1_fn (call_allR hc) hg hm (by decide +kernel) (he := hs)) ha (fun ρ H σd hd σ l q vs Q rs sq rvs p => ?_) hs
  cases c : bools l with
  | none => simp only [c] at p; exact p.elim
  | some is =>
    simp only [c] at p
    have e := bools_rel rvs c
    subst e
    exact ⟨q, is, rfl, sq.imp id SqT.of, p.here rs (by simp only [rD, RD])⟩
theorem mf_rep {a b : Expr} {la : LF} {fb : EF} (ha : MF X a la) (hb : ME X b fb) : MF X (.BinOp a .Mult b pos) (lRep la fb) := by
  refine PE.imp (pe_op op_rep ha hb) fun σ H Q zq93 => ?_
  obtain ⟨ρ, σd, hd, rs, pp⟩ := zq93
  refine ⟨ρ, σd, hd, rs, ?_⟩
  unfold lRep at pp
  cases e : la σd hd with
  | exc x h' => rw [e] at pp; exact pp
  | bad => rw [e] at pp; exact pp
  | ok l hd1 =>
    rw [e] at pp
    simp only [bind_ok] at pp
    intro q vs H1 ρ1 e1 rs1 hq0 hq hn rvs
    refine ⟨ρ1, σd, hd1, rs1, ?_⟩
    cases e2 : fb σd hd1 with
    | exc x h' => rw [e2] at pp; exact pp
    | bad => rw [e2] at pp; exact pp
    | ok y hd2 =>
      rw [e2] at pp
      simp only [bind_ok] at pp
      intro v H2 ρ2 ex2 rs2 rv
      cases y <;> try exact pp.elim
      rename_i n
      simp only at pp
      split at pp
      · rename_i hz
        simp only [rD, RD] at rv
        subst rv
        have hq2 : H2 q = some (.lst vs) := ex2.frame q _ hq hn
        have rvs2 := rvs.mono (rs1.hp.kp ex2)
        refine ⟨q, n, vs, rfl, rfl, hq2, by omega, by omega, by rw [← rvs.length, sizeLine_eq]; omega, fun p' hp' => ?_⟩
        exact PostF.mk pp (e1.trans ex2) rs2 (RDs.rep rvs2 n.toNat) p' hp'
      · exact pp.elim
theorem me_max {a b : Expr} {fa fb : EF} (hc : X.calm = true) (hg : Gl X "max") (hm : X.mg "max" = none) (ha : ME X a fa) (hb : ME X b fb) (hs : starEach [a, b] X.env = (false, eval a X.env) :: starEach [b] X.env := by rfl) (hs2 : starEach [b] X.env = (false, eval b X.env) :: starEach [] X.env := by rfl) (hpl : (backTo pos (starEach [b] X.env)).any (fun x => x.1) = false := by rfl) : ME X (.Call (.Name "max" p) [a, b] [] pos) (fMax fa fb) := by
  refine PE.imp (pe_callB (call_max2 hc) hg hm (by decide +kernel) (pa_cons ha (pa_cons hb pa_nil hs2) hs) (he := hs) (hpl := hpl)) fun σ H Q zq94 => ?_
  obtain ⟨ρ, σd, hd, rs, pp⟩ := zq94
  refine ⟨ρ, σd, hd, rs, ?_⟩
  unfold fMax at pp
  refine (Post.bind (R := rD X.K) pp).imp fun v H1 zq95 => ?_
  obtain ⟨ρ1, d, hd1, e1, rs1, rv, p1⟩ := zq95
  refine ?_
  refine ⟨ρ1, σd, hd1, rs1, ?_⟩
  refine (Post.bind (R := rD X.K) p1).imp fun w H2 zq96 => ?_
  obtain ⟨ρ2, k, hd2, e2, rs2, rw', p2⟩ := zq96
  refine ?_
  cases d <;> try exact p2.elim
  cases k <;> try exact p2.elim
  simp only [rD, RD] at rv rw'
  subst rv rw'
  exact ⟨_, _, rfl, p2.here rs2 (by simp only [rD, RD])⟩
end
end Fm
set_option linter.all false
namespace Fm
@[simp] noncomputable def iZip (a b : EF) : IF := fun σ h => (a σ h).bind fun x h => (b σ h).bind fun y h => match x, y with
  | .tup l, .tup k => .ok ((l.zip k).map fun p => .tup [p.1, p.2], none) h
  | _, _ => .bad
@[simp] noncomputable def fAbs (a : EF) : EF := fun σ h => (a σ h).bind fun x h => match x with | .int i => .ok (.int i.natAbs) h | _ => .bad
@[simp] noncomputable def fMin (a b : EF) : EF := fun σ h => (a σ h).bind fun x h => (b σ h).bind fun y h => match x, y with
  | .int i, .int j => .ok (.int (if j < i then j else i)) h
  | _, _ => .bad
noncomputable section
open Classical
end
end Fm
set_option Elab.async false
set_option linter.all false
set_option maxRecDepth 100000
namespace Fm
open PySem PySem.Spec L2
open PyProof.Rows (Call_)
theorem tup_but {h h' : Heap} {i l : Addr} {xs : Array Value} (t : h.IsTuple l xs) (e : Heap.ExtBut i h h') (n : l ≠ i) : h'.IsTuple l xs := by
  obtain ⟨o, ho, r⟩ := t
  exact ⟨o, e _ _ n ho, r⟩
section
variable {prog : Program} {w : World} {A : Around} {E : Value → Shared → Prop} {s : Shared} {z TI TO i1 i2 l1 l2 : Addr} {k : Nat} {xs ys : Array Value} {a b : Value}
theorem zipT_item {x y : Value} {Q : Value → Shared → Prop} (Z : ZipApart z TI TO i1 i2 l1 l2) (gz : IsZip s.heap z TI TO .none) (gI : IsPair s.heap TI (.ref i1) (.ref i2)) (gO : IsPair s.heap TO a b)
    (t1 : s.heap.IsTupleIter i1 l1 k) (t2 : s.heap.IsTupleIter i2 l2 k) (u1 : s.heap.IsTuple l1 xs) (u2 : s.heap.IsTuple l2 ys) (ex : xs[k]? = some x) (ey : ys[k]? = some y)
    (q : ∀ h', IsZip h' z TI TO (rawInt s.heap.objs.size) → IsPair h' TO x y → h'.IsTupleIter i1 l1 (k + 1) → h'.IsTupleIter i2 l2 (k + 1) → IsPair h' s.heap.objs.size x y → h'.objs.size = s.heap.objs.size + 1 →
      (∀ c o, c ≠ z → c ≠ TO → c ≠ i1 → c ≠ i2 → s.heap.get? c = some o → h'.get? c = some o) → Q (.ref s.heap.objs.size) { s with heap := h' }) :
    wpAny (model prog w) A (Builtin.«zip.__next__» ⟨[.ref z], []⟩) (fun fin s' => ∃ v, fin = .done (.ret v) ∧ Q v s') E s := by
  show wpAny _ _ (field (.ref z) 2 >>= fun _ => _) _ _ _
  refine wpAny_bind (wpAny_field gz rfl (x := .bool false) rfl ?_)
  show wpAny _ _ (field (.ref z) 3 >>= fun _ => _) _ _ _
  refine wpAny_bind (wpAny_field gz rfl (x := .ref TI) rfl (wpAny_bind (wpAny_seqItems gI rfl ?_)))
  show wpAny _ _ (Builtin.SmallTypes.ownedTupleIsFree (.ref z) >>= fun _ => _) _ _ _
  unfold Builtin.SmallTypes.ownedTupleIsFree
  refine wpAny_bind (wpAny_bind (wpAny_field gz rfl (x := .none) rfl (wpAny_pure ?_)))
  simp only [if_true]
  refine wpAny_bind (wpAny_rule (wpAny_bind (wpAny_field gz rfl (x := .ref TO) rfl (wpAny_bind (wpAny_setField_rec gz (by simp) fun g1 gz1 b1 => wpAny_bind ?_)))))
  replace gz1 : IsZip g1 z TI TO .ellipsis := gz1
  simp only [List.zipIdx_cons, List.zipIdx_nil, List.forIn_cons, List.forIn_nil]
  refine wpAny_bind (wpAny_bind (wpAny_onRaise ?_))
  show wpAny _ _ (Builtin.SmallTypes.nextOf (.ref i1) >>= fun _ => _) _ _ _
  refine wpAny_bind (nextOf_tuple_item (t1.extBut b1.extBut Z.i1z) (tup_but u1 b1.extBut Z.l1z) ex fun g2 t12 b2 => wpAny_pure ?_)
  have gO2 : IsPair g2 TO a b := b2.extBut _ _ Z.TOi1 (b1.extBut _ _ Z.TOz gO)
  refine wpAny_bind (wpAny_seqItems gO2 rfl (wpAny_bind (wpAny_updateSeq_pair gO2 fun g3 gO3 b3 => wpAny_bind (wpAny_letGo (wpAny_pure ?_)))))
  replace gO3 : IsPair g3 TO x b := gO3
  refine wpAny_bind (wpAny_bind (wpAny_onRaise ?_))
  show wpAny _ _ (Builtin.SmallTypes.nextOf (.ref i2) >>= fun _ => _) _ _ _
  refine wpAny_bind (nextOf_tuple_item (((t2.extBut b1.extBut Z.i2z).extBut b2.extBut Z.i12.symm).extBut b3.extBut Z.TOi2.symm) (tup_but (tup_but (tup_but u2 b1.extBut Z.l2z) b2.extBut Z.l2i1) b3.extBut Z.l2TO) ey fun g4 t24 b4 => wpAny_pure ?_)
  have gO4 : IsPair g4 TO x b := b4.extBut _ _ Z.TOi2 gO3
  refine wpAny_bind (wpAny_seqItems gO4 rfl (wpAny_bind (wpAny_updateSeq_pair gO4 fun g5 gO5 b5 => wpAny_bind (wpAny_letGo (wpAny_pure (wpAny_pure ?_))))))
  replace gO5 : IsPair g5 TO x y := gO5
  refine wpAny_bind (wpAny_seqItems gO5 rfl (wpAny_bind (wpAny_newTuple ?_)))
  have sz : g5.objs.size = s.heap.objs.size := by rw [b5.1, b4.1, b3.1, b2.1, b1.1]
  have gz5 : IsZip g5 z TI TO .ellipsis := b5.extBut _ _ Z.TOz.symm (b4.extBut _ _ Z.i2z.symm (b3.extBut _ _ Z.TOz.symm (b2.extBut _ _ Z.i1z.symm gz1)))
  have kp : ∀ c o, c ≠ z → c ≠ TO → c ≠ i1 → c ≠ i2 → s.heap.get? c = some o → g5.get? c = some o := fun c o n1 n2 n3 n4 e => b5.extBut _ _ n2 (b4.extBut _ _ n4 (b3.extBut _ _ n2 (b2.extBut _ _ n3 (b1.extBut _ _ n1 e))))
  have t15 : g5.IsTupleIter i1 l1 (k + 1) := ((t12.extBut b3.extBut Z.TOi1.symm).extBut b4.extBut Z.i12).extBut b5.extBut Z.TOi1.symm
  have t25 : g5.IsTupleIter i2 l2 (k + 1) := t24.extBut b5.extBut Z.TOi2.symm
  have zl : z < g5.objs.size := Heap.lt_size gz5
  show wpAny _ _ (Builtin.SmallTypes.ownedTupleHandOut (.ref z) (.ref g5.objs.size) >>= fun _ => _) _ _ _
  unfold Builtin.SmallTypes.ownedTupleHandOut
  have gz6 : IsZip (g5.push { cls := .type "tuple", data := .seq #[x, y] }) z TI TO .ellipsis := Heap.get?_push_of_some _ gz5
  refine wpAny_bind (wpAny_bind (wpAny_setField_rec gz6 (by simp) fun g7 gz7 b7 => ?_))
  replace gz7 : IsZip g7 z TI TO (rawInt g5.objs.size) := gz7
  refine wpAny_setField_rec gz7 (by simp) fun g8 gz8 b8 => ?_
  replace gz8 : IsZip g8 z TI TO (rawInt g5.objs.size) := gz8
  have up : ∀ c o, c ≠ z → g5.get? c = some o → g8.get? c = some o := fun c o n1 e => b8.extBut _ _ n1 (b7.extBut _ _ n1 (Heap.get?_push_of_some _ e))
  have gT : IsPair g8 g5.objs.size x y := b8.extBut _ _ (Nat.ne_of_gt zl) (b7.extBut _ _ (Nat.ne_of_gt zl) (Heap.get?_push_size _ rfl))
  have s8 : g8.objs.size = g5.objs.size + 1 := by rw [b8.1, b7.1, Heap.size_push]
  rw [sz] at gz8 gT s8
  refine wpAny_pure ⟨_, rfl, ?_⟩
  show Q (.ref g5.objs.size) _
  rw [sz]
  exact q g8 gz8 (up _ _ Z.TOz gO5) (let ⟨o, e, r⟩ := t15; ⟨o, up _ o Z.i1z e, r⟩) (let ⟨o, e, r⟩ := t25; ⟨o, up _ o Z.i2z e, r⟩) gT s8 fun c o n1 n2 n3 n4 e => up c o n1 (kp c o n1 n2 n3 n4 e)
theorem zipT_end {Q : Fin → Shared → Prop} (hh : A.handled = none) (Z : ZipApart z TI TO i1 i2 l1 l2) (gz : IsZip s.heap z TI TO .none) (gI : IsPair s.heap TI (.ref i1) (.ref i2)) (gO : IsPair s.heap TO a b)
    (t1 : s.heap.IsTupleIter i1 l1 k) (t2 : s.heap.IsTupleIter i2 l2 k) (u1 : s.heap.IsTuple l1 xs) (u2 : s.heap.IsTuple l2 ys) (nd : xs[k]? = none ∨ ys[k]? = none)
    (q : ∀ h' e, (∀ c o, c ≠ z → c ≠ TO → c ≠ i1 → c ≠ i2 → s.heap.get? c = some o → h'.get? c = some o) → (∃ o, h'.get? e = some o ∧ o.cls = .type "StopIteration") → E (.ref e) { s with heap := h' }) :
    wpAny (model prog w) A (Builtin.«zip.__next__» ⟨[.ref z], []⟩) Q E s := by
  show wpAny _ _ (field (.ref z) 2 >>= fun _ => _) _ _ _
  refine wpAny_bind (wpAny_field gz rfl (x := .bool false) rfl ?_)
  show wpAny _ _ (field (.ref z) 3 >>= fun _ => _) _ _ _
  refine wpAny_bind (wpAny_field gz rfl (x := .ref TI) rfl (wpAny_bind (wpAny_seqItems gI rfl ?_)))
  show wpAny _ _ (Builtin.SmallTypes.ownedTupleIsFree (.ref z) >>= fun _ => _) _ _ _
  unfold Builtin.SmallTypes.ownedTupleIsFree
  refine wpAny_bind (wpAny_bind (wpAny_field gz rfl (x := .none) rfl (wpAny_pure ?_)))
  simp only [if_true]
  refine wpAny_bind (wpAny_rule (wpAny_bind (wpAny_field gz rfl (x := .ref TO) rfl (wpAny_bind (wpAny_setField_rec gz (by simp) fun g1 gz1 b1 => wpAny_bind ?_)))))
  replace gz1 : IsZip g1 z TI TO .ellipsis := gz1
  simp only [List.zipIdx_cons, List.zipIdx_nil, List.forIn_cons, List.forIn_nil]
  refine wpAny_bind (wpAny_bind (wpAny_onRaise ?_))
  show wpAny _ _ (Builtin.SmallTypes.nextOf (.ref i1) >>= fun _ => _) _ _ _
  cases ex : xs[k]? with
  | none =>
    refine wpAny_bind (nextOf_tuple_end hh (t1.extBut b1.extBut Z.i1z) (tup_but u1 b1.extBut Z.l1z) ex fun g2 e b2 he => ?_)
    obtain ⟨oe, ho, hc⟩ := he
    have gz2 : IsZip g2 z TI TO .ellipsis := b2 _ _ Z.i1z.symm gz1
    have ne : e ≠ z := fun v => by subst v; rw [gz2] at ho; cases ho; simp at hc
    exact wpAny_setField_rec gz2 (by simp) fun g3 _ b3 => q g3 e (fun c o n1 _ n3 _ v => b3.extBut _ _ n1 (b2 _ _ n3 (b1.extBut _ _ n1 v))) ⟨oe, b3.extBut _ _ ne ho, hc⟩
  | some x =>
    have ey : ys[k]? = none := nd.resolve_left (by rw [ex]; exact Option.some_ne_none _)
    refine wpAny_bind (nextOf_tuple_item (t1.extBut b1.extBut Z.i1z) (tup_but u1 b1.extBut Z.l1z) ex fun g2 t12 b2 => wpAny_pure ?_)
    have gO2 : IsPair g2 TO a b := b2.extBut _ _ Z.TOi1 (b1.extBut _ _ Z.TOz gO)
    refine wpAny_bind (wpAny_seqItems gO2 rfl (wpAny_bind (wpAny_updateSeq_pair gO2 fun g3 gO3 b3 => wpAny_bind (wpAny_letGo (wpAny_pure ?_)))))
    refine wpAny_bind (wpAny_bind (wpAny_onRaise ?_))
    show wpAny _ _ (Builtin.SmallTypes.nextOf (.ref i2) >>= fun _ => _) _ _ _
    refine wpAny_bind (nextOf_tuple_end hh (((t2.extBut b1.extBut Z.i2z).extBut b2.extBut Z.i12.symm).extBut b3.extBut Z.TOi2.symm) (tup_but (tup_but (tup_but u2 b1.extBut Z.l2z) b2.extBut Z.l2i1) b3.extBut Z.l2TO) ey fun g4 e b4 he => ?_)
    obtain ⟨oe, ho, hc⟩ := he
    have gz4 : IsZip g4 z TI TO .ellipsis := b4 _ _ Z.i2z.symm (b3.extBut _ _ Z.TOz.symm (b2.extBut _ _ Z.i1z.symm gz1))
    have ne : e ≠ z := fun v => by subst v; rw [gz4] at ho; cases ho; simp at hc
    exact wpAny_setField_rec gz4 (by simp) fun g5 _ b5 => q g5 e (fun c o n1 n2 n3 n4 v => b5.extBut _ _ n1 (b4 _ _ n4 (b3.extBut _ _ n2 (b2.extBut _ _ n3 (b1.extBut _ _ n1 v))))) ⟨oe, b5.extBut _ _ ne ho, hc⟩
theorem pyNextT_item {x y : Value} {Q : Option Value → Shared → Prop} (Z : ZipApart z TI TO i1 i2 l1 l2) (gz : IsZip s.heap z TI TO .none) (gI : IsPair s.heap TI (.ref i1) (.ref i2)) (gO : IsPair s.heap TO a b)
    (t1 : s.heap.IsTupleIter i1 l1 k) (t2 : s.heap.IsTupleIter i2 l2 k) (u1 : s.heap.IsTuple l1 xs) (u2 : s.heap.IsTuple l2 ys) (ex : xs[k]? = some x) (ey : ys[k]? = some y)
    (q : ∀ h', IsZip h' z TI TO (rawInt s.heap.objs.size) → IsPair h' TO x y → h'.IsTupleIter i1 l1 (k + 1) → h'.IsTupleIter i2 l2 (k + 1) → IsPair h' s.heap.objs.size x y → h'.objs.size = s.heap.objs.size + 1 →
      (∀ c o, c ≠ z → c ≠ TO → c ≠ i1 → c ≠ i2 → s.heap.get? c = some o → h'.get? c = some o) → Q (some (.ref s.heap.objs.size)) { s with heap := h' }) :
    wpAny (model prog w) A (pyNext (.ref z)) Q E s := by
  have ty : s.TypeIs (.ref z) "zip" := ⟨_, gz, rfl⟩
  unfold pyNext
  refine wpAny_bind (wpAny_attempt (wpAny_callSpecial?_slot (name := Str.ofString "__next__") ty F.slot_zip_next (wpAny_call_entry F.slot_zip_next ty F.entry_zip_next ?_ (F.args_zip_next_1 _))))
  exact zipT_item Z gz gI gO t1 t2 u1 u2 ex ey fun h' a1 a2 a3 a4 a5 a6 a7 => wpAny_pure (q h' a1 a2 a3 a4 a5 a6 a7)
theorem pyNextT_end {Q : Option Value → Shared → Prop} (hh : A.handled = none) (Z : ZipApart z TI TO i1 i2 l1 l2) (gz : IsZip s.heap z TI TO .none) (gI : IsPair s.heap TI (.ref i1) (.ref i2)) (gO : IsPair s.heap TO a b)
    (t1 : s.heap.IsTupleIter i1 l1 k) (t2 : s.heap.IsTupleIter i2 l2 k) (u1 : s.heap.IsTuple l1 xs) (u2 : s.heap.IsTuple l2 ys) (nd : xs[k]? = none ∨ ys[k]? = none)
    (q : ∀ h', (∀ c o, c ≠ z → c ≠ TO → c ≠ i1 → c ≠ i2 → s.heap.get? c = some o → h'.get? c = some o) → Q none { s with heap := h' }) : wpAny (model prog w) A (pyNext (.ref z)) Q E s := by
  have ty : s.TypeIs (.ref z) "zip" := ⟨_, gz, rfl⟩
  unfold pyNext
  refine wpAny_bind (wpAny_attempt (wpAny_callSpecial?_slot (name := Str.ofString "__next__") ty F.slot_zip_next (wpAny_call_entry F.slot_zip_next ty F.entry_zip_next ?_ (F.args_zip_next_1 _))))
  refine zipT_end hh Z gz gI gO t1 t2 u1 u2 nd fun h' e kk he => ?_
  obtain ⟨o, ho, hc⟩ := he
  exact wpAny_bind (wpAny_isInstance (T := "StopIteration") (b := true) ⟨o, ho, hc⟩ isSubtype_stop (wpAny_pure (q _ kk)))
end
noncomputable def zt1 (h : Heap) (l1 : Addr) : Heap := h.push { cls := .type "tuple_iterator", data := .fields #[.ref l1, .int 0 0] }
noncomputable def zt2 (h : Heap) (l1 l2 : Addr) : Heap := (zt1 h l1).push { cls := .type "tuple_iterator", data := .fields #[.ref l2, .int 0 0] }
noncomputable def zt3 (h : Heap) (l1 l2 : Addr) : Heap := (zt2 h l1 l2).push { cls := .type "tuple", data := .seq #[.ref h.objs.size, .ref (zt1 h l1).objs.size] }
noncomputable def zt4 (h : Heap) (l1 l2 : Addr) : Heap := (zt3 h l1 l2).push { cls := .type "tuple", data := .seq #[.none, .none] }
noncomputable def zt5 (h : Heap) (l1 l2 : Addr) : Heap := (zt4 h l1 l2).push { cls := .type "zip", data := .fields #[.none, .bool false, .bool false, .ref (zt2 h l1 l2).objs.size, .ref (zt3 h l1 l2).objs.size] }
theorem meets_zipT (l1 l2 : Addr) (xs ys : Array Value) :
    Meets (Builtin.«zip.__new__» ⟨[.type "zip", .ref l1, .ref l2], []⟩) (fun _ R s => s.heap.IsTuple l1 xs ∧ s.heap.IsTuple l2 ys ∧ R (.ok (.ret (.ref (zt4 s.heap l1 l2).objs.size))) { s with heap := zt5 s.heap l1 l2 }) :=
  .of_wp fun prog w A R s h => by
    obtain ⟨hp, g, d, tk, os⟩ := s; obtain ⟨u1, u2, h⟩ := h
    have hsub := sub_zip
    have T1 : Heap.IsTuple (Shared.heap ⟨hp, g, d, tk, os⟩) l1 xs := u1
    have T2 : Heap.IsTuple (Shared.heap ⟨hp.push { cls := .type "tuple_iterator", data := .fields #[.ref l1, .int 0 0] }, g, d, tk, os⟩) l2 ys := by
      obtain ⟨o, ho, r⟩ := u2
      exact ⟨o, Heap.get?_push_of_some _ ho, r⟩
    wp_walk using wpAny_pyIter_tuple T1, wpAny_pyIter_tuple T2
    exact ⟨_, rfl, h⟩
section
variable {prog : Program} {w : World} {A : Around} {E : Value → Shared → Prop} {s : Shared}
theorem call_zipT {l1 l2 : Addr} {xs ys : Array Value} {Q : Value → Shared → Prop} (u1 : s.heap.IsTuple l1 xs) (u2 : s.heap.IsTuple l2 ys)
    (q : ∀ h', IsZip h' (s.heap.objs.size + 4) (s.heap.objs.size + 2) (s.heap.objs.size + 3) .none → IsPair h' (s.heap.objs.size + 2) (.ref s.heap.objs.size) (.ref (s.heap.objs.size + 1)) →
      IsPair h' (s.heap.objs.size + 3) .none .none → h'.IsTupleIter s.heap.objs.size l1 0 → h'.IsTupleIter (s.heap.objs.size + 1) l2 0 → h'.objs.size = s.heap.objs.size + 5 →
      (∀ c o, s.heap.get? c = some o → h'.get? c = some o) → Q (.ref (s.heap.objs.size + 4)) { s with heap := h' }) :
    wpAny (model prog w) A (call (.type "zip") [.ref l1, .ref l2]) Q E s := by
  refine callType_new F.called_zip (by decide) (F.typeCall_zip_2 _ _) (F.newCall_zip_2 _ _) (fun obj => F.args_object_init_3 obj _ _) F.entry_zip_new (meets_zipT l1 l2 xs ys) ⟨u1, u2, ?_⟩
  have z1 : (zt1 s.heap l1).objs.size = s.heap.objs.size + 1 := Heap.size_push ..
  have z2 : (zt2 s.heap l1 l2).objs.size = s.heap.objs.size + 2 := (Heap.size_push ..).trans (by rw [z1])
  have z3 : (zt3 s.heap l1 l2).objs.size = s.heap.objs.size + 3 := (Heap.size_push ..).trans (by rw [z2])
  have z4 : (zt4 s.heap l1 l2).objs.size = s.heap.objs.size + 4 := (Heap.size_push ..).trans (by rw [z3])
  have z5 : (zt5 s.heap l1 l2).objs.size = s.heap.objs.size + 5 := (Heap.size_push ..).trans (by rw [z4])
  have p1 : ∀ {c o}, (zt1 s.heap l1).get? c = some o → (zt5 s.heap l1 l2).get? c = some o := fun e => Heap.get?_push_of_some _ (Heap.get?_push_of_some _ (Heap.get?_push_of_some _ (Heap.get?_push_of_some _ e)))
  have p2 : ∀ {c o}, (zt2 s.heap l1 l2).get? c = some o → (zt5 s.heap l1 l2).get? c = some o := fun e => Heap.get?_push_of_some _ (Heap.get?_push_of_some _ (Heap.get?_push_of_some _ e))
  have p3 : ∀ {c o}, (zt3 s.heap l1 l2).get? c = some o → (zt5 s.heap l1 l2).get? c = some o := fun e => Heap.get?_push_of_some _ (Heap.get?_push_of_some _ e)
  have g1 : (zt5 s.heap l1 l2).get? s.heap.objs.size = some { cls := .type "tuple_iterator", data := .fields #[.ref l1, .int 0 0] } := p1 (Heap.get?_push_size _ rfl)
  have g2 : (zt5 s.heap l1 l2).get? (s.heap.objs.size + 1) = some { cls := .type "tuple_iterator", data := .fields #[.ref l2, .int 0 0] } := by rw [← z1]; exact p2 (Heap.get?_push_size _ rfl)
  have g3 : (zt5 s.heap l1 l2).get? (s.heap.objs.size + 2) = some { cls := .type "tuple", data := .seq #[.ref s.heap.objs.size, .ref (s.heap.objs.size + 1)] } := by rw [← z2, ← z1]; exact p3 (Heap.get?_push_size _ rfl)
  have g4 : (zt5 s.heap l1 l2).get? (s.heap.objs.size + 3) = some { cls := .type "tuple", data := .seq #[.none, .none] } := by rw [← z3]; exact Heap.get?_push_of_some _ (Heap.get?_push_size _ rfl)
  have g5 : (zt5 s.heap l1 l2).get? (s.heap.objs.size + 4) = some { cls := .type "zip", data := .fields #[.none, .bool false, .bool false, .ref (s.heap.objs.size + 2), .ref (s.heap.objs.size + 3)] } := by rw [← z4, ← z2, ← z3]; exact Heap.get?_push_size _ rfl
  show _ ∧ _
  rw [z4]
  exact ⟨⟨_, g5, rfl⟩, q _ g5 g3 g4 ⟨_, g1, rfl, rfl⟩ ⟨_, g2, rfl, rfl⟩ z5 fun c o e => p1 (Heap.get?_push_of_some _ e)⟩
end
theorem turnedL {X : Cx} {pins : List (Addr × Obj)} {σ : St} {H : Hp} {s : Shared} {h' : Heap} {t' : Nat} {ch : List Addr} (I : L2.Inv X pins σ H s) (k : ∀ b o, b ∉ ch → s.heap.get? b = some o → h'.get? b = some o) (hf : ∀ b ∈ ch, FpOk X pins H b) :
    L2.Inv X pins σ H { s with heap := h', toks := t' } := by
  have nit : ∀ b u, H b = some u → b ∉ ch := fun b u e z => by rw [(hf b z).1] at e; cases e
  refine I.step (g' := s.gens) (d' := s.drawn) (ch := ch) (fun b hb => ⟨(hf b hb).2.2.2.1, (hf b hb).2.1, (hf b hb).2.2.2.2.1, (hf b hb).2.2.2.2.2⟩) (fun b o _ _ hc e _ => k b o hc e) (fun b o _ _ hc e _ => ⟨o.slots, k b o hc e⟩) (fun _ _ _ _ n => n)
    (fun b o hc e => ⟨o, k b o hc e⟩) (fun _ _ e => e) (fun _ _ _ e => e) (fun b ps e => ⟨#[], by rw [e]; simp⟩) (fun m hm => ?_) (fun b u e => ?_) I.bare
  · obtain ⟨o, es, ep, ho, r⟩ := hm
    exact ⟨o, es, ep, k _ o (fun z => (hf _ z).2.1 rfl) ho, r⟩
  · refine (I.hok b u e).stay (fun c v hc q => k c v ?_ q) (fun _ q => q) fun _ _ q => q
    rcases hc with z | z
    · rw [z]; exact nit b u e
    · exact nit c _ z
noncomputable def Itz (K : PySem.W.Frag) (a b : Addr) : It :=
  ⟨fun i H => ∃ xs ys x y, SqT K H a xs ∧ SqT K H b ys ∧ xs[i]? = some x ∧ ys[i]? = some y, fun i H x H' => ∃ q v u, x = .ref q ∧ H q = none ∧ H' = upd H q (.tup [v, u]) ∧ (∀ xs, SqT K H a xs → xs[i]? = some v) ∧ ∀ ys, SqT K H b ys → ys[i]? = some u, fun i H => ∃ xs ys, SqT K H a xs ∧ SqT K H b ys ∧ min xs.length ys.length = i⟩
theorem turn_zip {P : Program} {w : World} {K : PySem.W.Frag} {elts : List Expr} {k : Nat} {pos : Pos} (z TI TO i1 i2 a b : Addr) (Z : ZipApart z TI TO i1 i2 a b) :
    Turn P w K (.Tuple elts k pos) (Itz K a b) [z, TI, TO, i1, i2] z (fun i h => IsZip h z TI TO .none ∧ IsPair h TI (.ref i1) (.ref i2) ∧ (∃ x y, IsPair h TO x y) ∧ h.IsTupleIter i1 a i ∧ h.IsTupleIter i2 b i) where
  mem := by simp
  obj := fun i h st c hc => by
    obtain ⟨gz, gI, ⟨x, y, gO⟩, ⟨o1, q1, c1, d1⟩, ⟨o2, q2, c2, d2⟩⟩ := st
    have hc' : c = z ∨ c = TI ∨ c = TO ∨ c = i1 ∨ c = i2 := by simpa using hc
    rcases hc' with rfl | rfl | rfl | rfl | rfl
    · exact ⟨_, gz, fun v e => by
        have e' : Data.fields _ = Data.cell v := e
        cases e'⟩
    · exact ⟨_, gI, fun v e => by
        have e' : Data.seq _ _ = Data.cell v := e
        cases e'⟩
    · exact ⟨_, gO, fun v e => by
        have e' : Data.seq _ _ = Data.cell v := e
        cases e'⟩
    · exact ⟨o1, q1, fun v e => by rw [d1] at e; cases e⟩
    · exact ⟨o2, q2, fun v e => by rw [d2] at e; cases e⟩
  keep := fun i h h' st kk => by
    obtain ⟨gz, gI, ⟨x, y, gO⟩, ⟨o1, q1, r1⟩, ⟨o2, q2, r2⟩⟩ := st
    exact ⟨kk z (by simp) _ gz, kk TI (by simp) _ gI, ⟨x, y, kk TO (by simp) _ gO⟩, ⟨o1, kk i1 (by simp) _ q1, r1⟩, ⟨o2, kk i2 (by simp) _ q2, r2⟩⟩
  item := by
    intro X hP hw hK hc i pins s σ H E I hf st hg
    subst hP hw hK
    obtain ⟨gz, gI, ⟨x0, y0, gO⟩, t1, t2⟩ := st
    obtain ⟨xs, ys, x, y, hq1, hq2, hx, hy⟩ := hg
    obtain ⟨is1, rv1, p1, hz1⟩ := I.tuple hq1
    obtain ⟨is2, rv2, p2, hz2⟩ := I.tuple hq2
    obtain ⟨u, hu, ru⟩ := rv1.get hx
    obtain ⟨v, hv, rv⟩ := rv2.get hy
    have T1 : s.heap.IsTuple a is1.toArray := p1
    have T2 : s.heap.IsTuple b is2.toArray := p2
    have ld := fun c (h : c ∈ [z, TI, TO, i1, i2]) => hf c h
    refine pyNextT_item Z gz gI gO t1 t2 T1 T2 (by simpa using hu) (by simpa using hv) fun h' az aO a1 a2 aN asz kk => ⟨_, rfl, wpAny_letOwnedTupleGo_zip az fun h2 az2 b2 => ?_⟩
    have zl : z < s.heap.objs.size := Heap.lt_size gz
    have Il : TI < s.heap.objs.size := Heap.lt_size gI
    have Ol : TO < s.heap.objs.size := Heap.lt_size gO
    have l1 : i1 < s.heap.objs.size := by obtain ⟨_, e, _⟩ := t1; exact Heap.lt_size e
    have l2 : i2 < s.heap.objs.size := by obtain ⟨_, e, _⟩ := t2; exact Heap.lt_size e
    have hN : H s.heap.objs.size = none := I.hok.fresh (Nat.le_refl _)
    have keep : ∀ c o, c ∉ [z, TO, i1, i2] → s.heap.get? c = some o → h2.get? c = some o := fun c o hc e => by
      have hc' : c ≠ z ∧ c ≠ TO ∧ c ≠ i1 ∧ c ≠ i2 := by simpa using hc
      exact (b2.2 c hc'.1).trans (kk c o hc'.1 hc'.2.1 hc'.2.2.1 hc'.2.2.2 e)
    have nw : IsPair h2 s.heap.objs.size u v := (b2.2 _ (Nat.ne_of_gt zl)).trans aN
    have sub : ∀ c ∈ [z, TO, i1, i2], c ∈ [z, TI, TO, i1, i2] := fun c hc => by simp at hc ⊢; rcases hc with e | e | e | e <;> simp [e]
    have hTI2 : IsPair h2 TI (.ref i1) (.ref i2) := keep TI _ (by simp; exact ⟨Z.TIz, Z.TITO, Z.TIi1, Z.TIi2⟩) gI
    refine ⟨.ref s.heap.objs.size, upd H s.heap.objs.size (.tup [x, y]), ?_, rfl, ⟨_, x, y, rfl, hN, rfl, fun zs hzs => by rw [I.tuple_inj hzs hq1]; exact hx, fun zs hzs => by rw [I.tuple_inj hzs hq2]; exact hy⟩,
      ⟨az2, hTI2, ⟨_, _, (b2.2 _ Z.TOz).trans aO⟩, (let ⟨o, e, r⟩ := a1; ⟨o, (b2.2 _ Z.i1z).trans e, r⟩), (let ⟨o, e, r⟩ := a2; ⟨o, (b2.2 _ Z.i2z).trans e, r⟩)⟩, fun c hc => ?_⟩
    · suffices I2 : L2.Inv X pins σ (upd H s.heap.objs.size (.tup [x, y])) { s with heap := h2, gens := s.gens, drawn := s.drawn, toks := s.toks } from I2
      have nch : ∀ c u', H c = some u' → c ∉ [z, TO, i1, i2] := fun c u' e q => by rw [(hf c (sub c q)).1] at e; cases e
      refine I.step (g' := s.gens) (d' := s.drawn) (t' := s.toks) (ch := [z, TO, i1, i2]) (fun c hc => ?_) (fun c o _ _ hc q _ => keep c o hc q) (fun c o _ _ hc q _ => ⟨o.slots, keep c o hc q⟩) (fun c o _ q n => ?_) (fun c o hc q => ⟨o, keep c o hc q⟩)
        (fun c zs q => ?_) (fun c o u' q => ?_) (fun c ps q => ⟨#[], ?_⟩) (fun m hm => ?_) (fun c u' q => ?_) I.bare
      · have := hf c (sub c hc)
        exact ⟨this.2.2.2.1, this.2.1, this.2.2.2.2.1, this.2.2.2.2.2⟩
      · rw [upd_ne (Nat.ne_of_lt (Heap.lt_size q))]; exact n
      · rw [upd_ne (ne_of_none q hN)]; exact q
      · rw [upd_ne (ne_of_none q hN)]; exact q
      · rw [upd_ne (ne_of_none q hN), q]; simp
      · obtain ⟨o, es, ep, ho, r⟩ := hm
        exact ⟨o, es, ep, keep _ o (fun q => (hf _ (sub _ q)).2.1 rfl) ho, r⟩
      · by_cases hb : c = s.heap.objs.size
        · subst hb
          rw [upd_same] at q
          cases q
          exact ⟨by show 2 ≤ sizeLine; rw [sizeLine_eq]; decide, [u, v], .cons ru (.cons rv .nil), _, nw, rfl, _, rfl⟩
        · rw [upd_ne hb] at q
          refine (I.hok c u' q).stay (fun d v' hd' e => ?_) (fun d e => by rw [upd_ne (ne_of_none e hN)]; exact e) fun d zs e => by rw [upd_ne (ne_of_none e hN)]; exact e
          rcases hd' with e' | e'
          · subst e'; exact keep d v' (nch d _ q) e
          · exact keep d v' (nch d _ e') e
    · have hc' : c = z ∨ c = TI ∨ c = TO ∨ c = i1 ∨ c = i2 := by simpa using hc
      have : c ≠ s.heap.objs.size := by rcases hc' with e | e | e | e | e <;> rw [e] <;> exact Nat.ne_of_lt (by assumption)
      rw [upd_ne this]
      exact (hf c hc).1
  done := by
    intro X hP hw hK hc i pins s σ H E I hf st hg
    subst hP hw hK
    obtain ⟨gz, gI, ⟨x0, y0, gO⟩, t1, t2⟩ := st
    obtain ⟨xs, ys, hq1, hq2, hi⟩ := hg
    obtain ⟨is1, rv1, p1, hz1⟩ := I.tuple hq1
    obtain ⟨is2, rv2, p2, hz2⟩ := I.tuple hq2
    have T1 : s.heap.IsTuple a is1.toArray := p1
    have T2 : s.heap.IsTuple b is2.toArray := p2
    have e1 := rv1.length
    have e2 := rv2.length
    have nd : is1.toArray[i]? = none ∨ is2.toArray[i]? = none := by
      rcases Nat.le_total xs.length ys.length with h | h
      · exact .inl (Array.getElem?_eq_none (by simp; omega))
      · exact .inr (Array.getElem?_eq_none (by simp; omega))
    have sub : ∀ c ∈ [z, TO, i1, i2], c ∈ [z, TI, TO, i1, i2] := fun c hc => by simp at hc ⊢; rcases hc with e | e | e | e <;> simp [e]
    refine pyNextT_end (I.ok.hd hc) Z gz gI gO t1 t2 T1 T2 nd fun h' kk => ⟨rfl, turnedL (t' := s.toks) (ch := [z, TO, i1, i2]) I (fun c o hc e => ?_) fun c hc => hf c (sub c hc)⟩
    have hc' : c ≠ z ∧ c ≠ TO ∧ c ≠ i1 ∧ c ≠ i2 := by simpa using hc
    exact kk c o hc'.1 hc'.2.1 hc'.2.2.1 hc'.2.2.2 e
  self := fun _ _ _ _ _ st h => wpAny_pyIter_zip st.1 h
section
variable {X : Cx} {pos p tp : Pos} {elts : List Expr} {tk : Nat}
noncomputable def iZp (K : PySem.W.Frag) (ta : TA) : TI := fun σ H R => ta σ H fun vs H1 => ∃ a b xs ys, vs = [.ref a, .ref b] ∧ SqT K H1 a xs ∧ SqT K H1 b ys ∧ (xs.length ≤ sizeLine → ys.length ≤ sizeLine → R (Itz K a b) H1)
theorem pi_zip {a b : Expr} {ta : TA} (hg : Gl X "zip") (hm : X.mg "zip" = none) (ha : PA X [a, b] ta) (hs : starEach [a, b] X.env = [(false, eval a X.env), (false, eval b X.env)] := by rfl) (hs2 : starEach [b] X.env = [(false, eval b X.env)] := by rfl) : PI X (.Tuple elts tk tp) (.Call (.Name "zip" p) [a, b] [] pos) (iZp X.K ta) := by
  intro pins s σ H R I h
  refine Call_ (ld_blt I hg hm PyProof.Rows.boot_zip (PyProof.Rows.callWith_type1 (thn (ha pos pins s σ H _ I h) fun us s1 ⟨vs, H1, I1, r1, q1⟩ => ?_) (by rw [hs, hs2]) (by rw [hs2]; rfl)))
  obtain ⟨a1, b1, xs, ys, e, hq1, hq2, q⟩ := q1
  subst e
  cases r1 with
  | cons r rr =>
    cases rr with
    | cons r' rr =>
      cases rr
      cases r
      cases r'
      obtain ⟨is1, rv1, p1, hz1⟩ := I1.tuple hq1
      obtain ⟨is2, rv2, p2, hz2⟩ := I1.tuple hq2
      have T1 : s1.heap.IsTuple a1 is1.toArray := p1
      have T2 : s1.heap.IsTuple b1 is2.toArray := p2
      have la : a1 < s1.heap.objs.size := by obtain ⟨_, e, _⟩ := T1; exact Heap.lt_size e
      have lb : b1 < s1.heap.objs.size := by obtain ⟨_, e, _⟩ := T2; exact Heap.lt_size e
      refine call_zipT T1 T2 fun h' gz gI gO t1 t2 hsz hk => ?_
      refine wpAny_pyIter_zip (s := { s1 with heap := h' }) gz ?_
      have I2 : Inv X pins σ H1 { s1 with heap := h' } := I1.kept (t' := s1.toks) hk
      have Z : ZipApart (s1.heap.objs.size + 4) (s1.heap.objs.size + 2) (s1.heap.objs.size + 3) s1.heap.objs.size (s1.heap.objs.size + 1) a1 b1 := by
        constructor <;> simp only [Addr] at * <;> omega
      refine ⟨s1.heap.objs.size + 4, [s1.heap.objs.size + 4, s1.heap.objs.size + 2, s1.heap.objs.size + 3, s1.heap.objs.size, s1.heap.objs.size + 1], _, _, H1, rfl, I2, turn_zip _ _ _ _ _ a1 b1 Z, ⟨gz, gI, ⟨_, _, gO⟩, t1, t2⟩, fun c hc => ?_, q hz1 hz2⟩
      have hc' : s1.heap.objs.size ≤ c := by
        have : c = s1.heap.objs.size + 4 ∨ c = s1.heap.objs.size + 2 ∨ c = s1.heap.objs.size + 3 ∨ c = s1.heap.objs.size ∨ c = s1.heap.objs.size + 1 := by simpa using hc
        rcases this with e | e | e | e | e <;> rw [e] <;> first | exact Nat.le_add_right _ _ | exact Nat.le_refl _
      exact I1.fpOk hc' (I1.hok.fresh hc')
theorem walk_zip {K : PySem.W.Frag} {ρ : List Addr} {H : Hp} {hd : Hd} {q q' : Addr} {l l' : List D} {vs vs' : List V} (r : RH K ρ H hd) (hq : H q = some (.tup vs)) (rv : RDs K ρ H l vs) (hz : vs.length ≤ sizeLine) (hq' : H q' = some (.tup vs')) (rv' : RDs K ρ H l' vs') :
    Walk K ρ H (Itz K q q') ((l.zip l').map fun p => .tup [p.1, p.2]) none where
  go := fun ρ' H' hd' i d ex rh _ hi => by
    have k := r.kp ex
    obtain ⟨hil, hi2⟩ := List.getElem?_eq_some_iff.mp hi
    have hl : i < l.length := by simp at hil; omega
    have hl' : i < l'.length := by simp at hil; omega
    have hd : d = .tup [l[i], l'[i]] := by rw [← hi2]; simp
    subst hd
    obtain ⟨v, hv, rd⟩ := (rv.mono k).get (i := i) (d := l[i]) (by simp [hl])
    obtain ⟨v', hv', rd'⟩ := (rv'.mono k).get (i := i) (d := l'[i]) (by simp [hl'])
    have sq : SqT K H' q vs := SqT.of (k.tup q vs hq)
    have sq' : SqT K H' q' vs' := SqT.of (k.tup q' vs' hq')
    refine ⟨⟨vs, vs', v, v', sq, sq', hv, hv'⟩, fun x H2 y => ?_⟩
    obtain ⟨q2, v2, v3, rfl, hn, rfl, y, y'⟩ := y
    have e1 := y vs sq
    have e2 := y' vs' sq'
    rw [hv] at e1
    rw [hv'] at e2
    cases e1
    cases e2
    have sm := same_upd (o := HO.tup [v, v']) hn
    refine ⟨sm, ?_⟩
    simp only [RD]
    exact ⟨q2, _, rfl, upd_same, RDs.cons (rd.mono (Kp.same sm)) (RDs.cons (rd'.mono (Kp.same sm)) RDs.nil)⟩
  stop := fun ρ' H' hd' ex rh _ => ⟨vs, vs', SqT.of ((r.kp ex).tup q vs hq), SqT.of ((r.kp ex).tup q' vs' hq'), by rw [← rv.length, ← rv'.length]; simp⟩
  sz := by
    have := rv.length
    simp; omega
theorem mi_zip {a b : Expr} {f g : EF} (hg : Gl X "zip") (hm : X.mg "zip" = none) (ha : ME X a f) (hb : ME X b g) (hs : starEach [a, b] X.env = [(false, eval a X.env), (false, eval b X.env)] := by rfl) (hs2 : starEach [b] X.env = [(false, eval b X.env)] := by rfl) : MI X (.Tuple elts tk tp) (.Call (.Name "zip" p) [a, b] [] pos) (iZip f g) := by
  refine PI.imp (pi_zip hg hm (pa_cons ha (pa_cons hb pa_nil hs2) (by rw [hs, hs2])) hs hs2) fun σ H R zq97 => ?_
  obtain ⟨ρ, σd, hd, rs, pp⟩ := zq97
  refine ⟨ρ, σd, hd, rs, ?_⟩
  unfold iZip at pp
  cases e : f σd hd with
  | exc x h1 => rw [e] at pp; exact pp
  | bad => rw [e] at pp; exact pp
  | ok d hd1 =>
    rw [e] at pp
    simp only [bind_ok] at pp
    intro v H1 ρ1 ex1 rs1 rv
    refine ⟨ρ1, σd, hd1, rs1, ?_⟩
    cases e2 : g σd hd1 with
    | exc x h1 => rw [e2] at pp; exact pp
    | bad => rw [e2] at pp; exact pp
    | ok d2 hd2 =>
      rw [e2] at pp
      simp only [bind_ok] at pp
      intro v2 H2 ρ2 ex2 rs2 rv2
      cases d <;> try exact pp.elim
      cases d2 <;> try exact pp.elim
      rename_i l l'
      simp only at pp
      have rv := RD.mono (rs1.hp.kp ex2) rv
      simp only [rD, RD] at rv rv2
      obtain ⟨q, vs, rfl, hq, rvs⟩ := rv
      obtain ⟨q', vs', rfl, hq', rvs'⟩ := rv2
      exact ⟨q, q', vs, vs', rfl, SqT.of hq, SqT.of hq', fun hz hz' => pp _ H2 ρ2 (ex1.trans ex2) rs2 (walk_zip rs2.hp hq rvs hz hq' rvs')⟩
end
end Fm
set_option Elab.async false
set_option linter.all false
set_option maxRecDepth 100000
namespace Fm
open PySem PySem.Spec L2 PySem.W PyProof.Rows
section
variable {X : Cx} {pos p : Pos}
theorem me_min {a b : Expr} {fa fb : EF} (hc : X.calm = true) (hg : Gl X "min") (hm : X.mg "min" = none) (ha : ME X a fa) (hb : ME X b fb) (hs : starEach [a, b] X.env = (false, eval a X.env) :: starEach [b] X.env := by rfl) (hs2 : starEach [b] X.env = (false, eval b X.env) :: starEach [] X.env := by rfl) (hpl : (backTo pos (starEach [b] X.env)).any (fun x => x.1) = false := by rfl) : ME X (.Call (.Name "min" p) [a, b] [] pos) (fMin fa fb) := by
  refine PE.imp (pe_callB (call_min2 hc) hg hm (by decide +kernel) (pa_cons ha (pa_cons hb pa_nil hs2) hs) (he := hs) (hpl := hpl)) fun σ H Q zq98 => ?_
  obtain ⟨ρ, σd, hd, rs, pp⟩ := zq98
  refine ⟨ρ, σd, hd, rs, ?_⟩
  unfold fMin at pp
  refine (Post.bind (R := rD X.K) pp).imp fun v H1 zq99 => ?_
  obtain ⟨ρ1, d, hd1, e1, rs1, rv, p1⟩ := zq99
  refine ?_
  refine ⟨ρ1, σd, hd1, rs1, ?_⟩
  refine (Post.bind (R := rD X.K) p1).imp fun w H2 zq100 => ?_
  obtain ⟨ρ2, k, hd2, e2, rs2, rw', p2⟩ := zq100
  refine ?_
  cases d <;> try exact p2.elim
  cases k <;> try exact p2.elim
  simp only [rD, RD] at rv rw'
  subst rv rw'
  exact ⟨_, _, rfl, p2.here rs2 (by simp only [rD, RD])⟩
end
section
variable {prog : Program} {w : World} {A : Around} {E : Value → Shared → Prop} {s : Shared}
end
section
variable {X : Cx} {pos p : Pos}
end
end Fm
set_option Elab.async false
set_option linter.all false
set_option maxRecDepth 100000
namespace Fm
open PySem PySem.Spec L2
open AutoSeq1 (wpAny_loadPart')
open PyProof.Rows (Call_)
section
variable {X : Cx} {pos p tp : Pos} {elts : List Expr} {tk : Nat}
end
section
variable {X : Cx} {pos : Pos} {tg : Expr}
end
end Fm
set_option linter.all false
namespace Fm
end Fm
set_option Elab.async false
set_option linter.all false
set_option maxRecDepth 100000
namespace Fm
open PySem PySem.Spec L2
open PyProof.Rows (Call_)
section
variable {X : Cx} {pos p p2 pos2 : Pos}
end
end Fm
set_option linter.all false
namespace Fm
end Fm
set_option linter.all false
namespace Fm
noncomputable section
open Classical
end
end Fm
set_option Elab.async false
set_option linter.all false
set_option maxRecDepth 100000
namespace Fm
open PySem PySem.Spec L2
section
variable {X : Cx} {pos : Pos} {scope : Scope} {own capn : List Str} {caps : List Nat}
end
section
variable {X : Cx}
end
end Fm
namespace Fm
theorem letGo_len {h h' : Hd} {d : D} (e : h'.length ≤ h.length) : letGo h (.ok d h') = .ok d h' := by
  simp only [letGo]; split
  · rw [List.take_of_length_le e]
  · rfl
@[simp] theorem letGo_self {h : Hd} {d : D} : letGo h (.ok d h) = .ok d h := letGo_len (Nat.le_refl _)
theorem letGo_ref {h h' : Hd} {d : D} (e : pure? d = false) : letGo h (.ok d h') = .ok d h' := by
  simp [letGo, e]
@[simp] theorem letGo_ref' {h h' : Hd} {n : Nat} : letGo h (.ok (.ref n) h') = .ok (.ref n) h' := letGo_ref rfl
theorem letGo_pure {h g : Hd} {d : D} (e : pure? d = true) : letGo h (.ok d (h ++ g)) = .ok d h := by
  have : oldOk h (h ++ g) := fun n c hn hc => .inl (by rwa [List.getElem?_append_left hn] at hc)
  simp [letGo, e, this]
structure Web where
  ties : List (List (Nat × Int))
  bars : List Int
  stays : List (Option Int)
noncomputable def encO : Option Int → D
  | none => .non
  | some i => .int i
noncomputable def encP (p : Nat × Int) : D := .tup [.int p.1, .int p.2]
noncomputable def encR (r : List (Nat × Int)) : D := .tup (r.map encP)
noncomputable def encI (l : List Int) : D := .tup (l.map .int)
noncomputable def Web.enc (w : Web) : D := .tup [.tup (w.ties.map encR), .tup (w.bars.map .int), .tup (w.stays.map encO)]
structure Web.Ok (w : Web) (n : Nat) : Prop where
  t : w.ties.length = n
  b : w.bars.length = n
  s : w.stays.length = n
  lt : ∀ r ∈ w.ties, ∀ p ∈ r, p.1 < n
  sz : n ≤ 1000
structure Fits (w : Web) (n : Nat) (s : List Int) : Prop where
  len : s.length = n
  op : ∀ x ∈ s, x = 0 ∨ x = 1
  st : ∀ (i : Nat) (x : Int), w.stays[i]? = some (some x) → s[i]? = some x
theorem atI_nat {l : List D} {i : Nat} {d : D} (e : l[i]? = some d) : atI l (i : Int) = some d := by
  have := (List.getElem?_eq_some_iff.mp e).1
  simp [atI, ixN, this]
  simpa [List.getElem?_eq_getElem this] using e
theorem compL_pure {g : Option Nat} {all : List D} {tg : GF} {cs : List TF} {e : EF} {h : Hd} (I : Sd → Prop) (p : D → Bool) (f : D → D) (hh : held g all h) :
    ∀ {xs : List D} {σ : Sd}, (∀ x ∈ xs, ∀ σ, I σ → ∃ σ', tg x σ = some σ' ∧ I σ' ∧ tests cs σ' h = .ok (p x) h ∧ (p x = true → e σ' h = .ok (f x) h)) → I σ →
      compL g all tg cs e xs σ h = .ok ((xs.filter p).map f) h
  | [], _, _, _ => by simp [compL, hh]
  | x :: xs, σ, st, i => by
    obtain ⟨σ', h1, h2, h3, h4⟩ := st x (by simp) σ i
    have ih := compL_pure I p f hh (xs := xs) (σ := σ') (fun y hy => st y (by simp [hy])) h2
    cases hp : p x with
    | true => simp [compL, hh, h1, h3, hp, h4 hp, ih]
    | false => simp [compL, hh, h1, h3, hp, ih]
theorem forL_more {g : Option Nat} {all : List D} {tg : GF} {b : SF} {rest : List D} (P : Nat → Sd → Hd → Prop) (hh : ∀ i σ h, P i σ h → held g all h) :
    ∀ {xs : List D} {k : Nat} {σ : Sd} {h : Hd}, (∀ (i : Nat) x σ h, xs[i]? = some x → P (k + i) σ h → ∃ σ', tg x σ = some σ' ∧ ∃ σ'' h'', b σ' h = .nx σ'' h'' ∧ P (k + i + 1) σ'' h'') → P k σ h →
      ∃ σ' h', forL g all tg b (xs ++ rest) σ h = forL g all tg b rest σ' h' ∧ P (k + xs.length) σ' h'
  | [], k, σ, h, _, p => ⟨σ, h, rfl, by simpa using p⟩
  | x :: xs, k, σ, h, st, p => by
    obtain ⟨σ', h1, σ2, h2, h3, h4⟩ := st 0 x σ h (by simp) (by simpa using p)
    have st' : ∀ (i : Nat) y σ h, xs[i]? = some y → P (k + 1 + i) σ h → ∃ σ', tg y σ = some σ' ∧ ∃ σ'' h'', b σ' h = .nx σ'' h'' ∧ P (k + 1 + i + 1) σ'' h'' := fun i y σ h e q => by
      have e1 : k + 1 + i = k + (i + 1) := by omega
      rw [e1] at q ⊢
      exact st (i + 1) y σ h (by simpa using e) q
    obtain ⟨σ3, h5, h6, h7⟩ := forL_more P hh st' (by simpa using h4)
    refine ⟨σ3, h5, ?_, ?_⟩
    · rw [← h6, List.cons_append, forL, if_pos (hh _ _ _ p), h1]
      simp only [h3]
    · have e1 : k + (x :: xs).length = k + 1 + xs.length := by simp; omega
      rw [e1]; exact h7
theorem forL_next {g : Option Nat} {all : List D} {tg : GF} {b : SF} (P : Nat → Sd → Hd → Prop) (hh : ∀ i σ h, P i σ h → held g all h)
    {xs : List D} {k : Nat} {σ : Sd} {h : Hd} (st : ∀ (i : Nat) x σ h, xs[i]? = some x → P (k + i) σ h → ∃ σ', tg x σ = some σ' ∧ ∃ σ'' h'', b σ' h = .nx σ'' h'' ∧ P (k + i + 1) σ'' h'') (p : P k σ h) :
      ∃ σ' h', forL g all tg b xs σ h = .nx σ' h' ∧ P (k + xs.length) σ' h' := by
  obtain ⟨σ', h', q, z⟩ := forL_more (rest := []) P hh st p
  rw [List.append_nil] at q
  exact ⟨σ', h', q.trans (by unfold forL; exact if_pos (hh _ _ _ z)), z⟩
theorem compL_next {g : Option Nat} {all : List D} {tg : GF} {e : EF} (P : Nat → Sd → Hd → Prop) (V : Nat → D → Prop) (hh : ∀ i σ h, P i σ h → held g all h) :
    ∀ {xs : List D} {k : Nat} {σ : Sd} {h : Hd}, (∀ (i : Nat) x σ h, xs[i]? = some x → P (k + i) σ h → ∃ σ', tg x σ = some σ' ∧ ∃ d h'', e σ' h = .ok d h'' ∧ V (k + i) d ∧ P (k + i + 1) σ' h'') → P k σ h →
      ∃ ds h', compL g all tg [] e xs σ h = .ok ds h' ∧ ds.length = xs.length ∧ (∀ (i : Nat) d, ds[i]? = some d → V (k + i) d) ∧ ∃ σ', P (k + xs.length) σ' h'
  | [], k, σ, h, _, p => ⟨[], h, by simp [compL, hh _ _ _ p], rfl, by simp, σ, by simpa using p⟩
  | x :: xs, k, σ, h, st, p => by
    obtain ⟨σ', h1, d, h2, h3, hv, h4⟩ := st 0 x σ h (by simp) (by simpa using p)
    have st' : ∀ (i : Nat) y σ h, xs[i]? = some y → P (k + 1 + i) σ h → ∃ σ', tg y σ = some σ' ∧ ∃ d h'', e σ' h = .ok d h'' ∧ V (k + 1 + i) d ∧ P (k + 1 + i + 1) σ' h'' := fun i y σ h e q => by
      have e1 : k + 1 + i = k + (i + 1) := by omega
      rw [e1] at q ⊢
      exact st (i + 1) y σ h (by simpa using e) q
    obtain ⟨ds, h5, h6, hl, hvs, σ3, h7⟩ := compL_next P V hh st' (by simpa using h4)
    refine ⟨d :: ds, h5, ?_, by simp [hl], fun i d' hd => ?_, σ3, ?_⟩
    · simp [compL, hh _ _ _ p, h1, tests, h3, h6]
    · cases i with
      | zero => simp at hd; subst hd; simpa using hv
      | succ i =>
        have := hvs i d' (by simpa using hd)
        rwa [show k + 1 + i = k + (i + 1) by omega] at this
    · have e1 : k + (x :: xs).length = k + 1 + xs.length := by simp; omega
      rw [e1]; exact h7
theorem list_of_at {α : Type} {n : Nat} {ds : List α} {f : Nat → α} (hl : ds.length = n) (h : ∀ (i : Nat) d, ds[i]? = some d → d = f i) : ds = (List.range n).map f := by
  apply List.ext_getElem?
  intro i
  by_cases hi : i < n
  · have : ds[i]? = some (ds[i]'(by omega)) := by simp [hl, hi]
    rw [this, h i _ this]
    simp [hi]
  · simp [hi, hl]
theorem whileN_mono {t : TF} {b : SF} : ∀ {n : Nat} {σ : Sd} {h : Hd} {r : Out}, whileN t b n σ h = r → r ≠ .bad → ∀ {m : Nat}, n ≤ m → whileN t b m σ h = r
  | 0, σ, h, r, e, hr, m, _ => by simp only [whileN] at e; exact absurd e.symm hr
  | n + 1, σ, h, r, e, hr, m, hm => by
    cases m with
    | zero => omega
    | succ m =>
      simp only [whileN] at e ⊢
      cases c : t σ h with
      | bad => rw [c] at e; exact e
      | exc x h1 => rw [c] at e; exact e
      | ok cb h1 =>
        rw [c] at e
        cases cb with
        | false => exact e
        | true =>
          simp only at e ⊢
          cases c2 : b σ h1 with
          | nx σ2 h2 => rw [c2] at e; exact whileN_mono e hr (by omega)
          | ct σ2 h2 => rw [c2] at e; exact whileN_mono e hr (by omega)
          | bk σ2 h2 => rw [c2] at e; exact e
          | rt d h2 => rw [c2] at e; exact e
          | exc x σ2 h2 => rw [c2] at e; exact e
          | bad => rw [c2] at e; exact e
theorem sWhile_eq {t : TF} {b : SF} {n : Nat} {σ : Sd} {h : Hd} {r : Out} (e : whileN t b n σ h = r) (hr : r ≠ .bad) : sWhile t b σ h = r := by
  have ex : ∃ n, whileN t b n σ h ≠ .bad := ⟨n, by rw [e]; exact hr⟩
  have hf : fuel t b σ h = Classical.choose ex := by simp [fuel, ex]
  have h2 := Classical.choose_spec ex
  unfold sWhile
  rw [hf]
  by_cases hle : n ≤ Classical.choose ex
  · exact whileN_mono e hr hle
  · have := whileN_mono (n := Classical.choose ex) rfl h2 (m := n) (by omega)
    rw [← this, e]
end Fm
set_option linter.all false
namespace Fm
theorem ev_call {F : Fn} {r : LF} {σ : Sd} {h h1 h' : Hd} {ds : List D} {d : D} (a : r σ h = .ok ds h1) (b : F ds h1 = .ok d h') : fCall F r σ h = .ok d h' := by
  show Res.bind _ _ = _; rw [a]; exact b
theorem ev_cons {a : EF} {r : LF} {σ : Sd} {h h1 h2 : Hd} {d : D} {ds : List D} (p : a σ h = .ok d h1) (q : r σ h1 = .ok ds h2) : aCons a r σ h = .ok (d :: ds) h2 := by
  show Res.bind _ _ = _; rw [p, bind_ok, q]; rfl
theorem ev_bin {g : O2} {a b : EF} {σ : Sd} {h h1 h2 h3 : Hd} {x y z : D} (p : a σ h = .ok x h1) (q : b σ h1 = .ok y h2) (r : g x y h2 = .ok z h3) : fBin g a b σ h = .ok z h3 := by
  show Res.bind _ _ = _; rw [p, bind_ok, q]; exact r
theorem ev_tup {r : LF} {σ : Sd} {h h' : Hd} {xs : List D} (p : r σ h = .ok xs h') (q : xs.length ≤ SZ := by exact of_decide_eq_true rfl) : fTup r σ h = .ok (.tup xs) h' := by
  show Res.bind _ _ = _; rw [p]; exact if_pos q
theorem ev_new {r : LF} {σ : Sd} {h h' : Hd} {xs : List D} (p : r σ h = .ok xs h') (q : xs.length ≤ SZ := by exact of_decide_eq_true rfl) : fNew r σ h = .ok (.ref h'.length) (h' ++ [.lst xs]) := by
  show Res.bind _ _ = _; rw [p]; exact if_pos q
theorem ev_ix {a : LF} {b : EF} {σ : Sd} {h h1 h2 : Hd} {l : List D} {i : Int} {d : D} (p : a σ h = .ok l h1) (q : b σ h1 = .ok (.int i) h2) (r : atI l i = some d) : fIx a b σ h = .ok d h2 := by
  show Res.bind _ _ = _; rw [p, bind_ok, q]; simp only [bind_ok, r]
theorem ev_at {a b : EF} {σ : Sd} {h h1 h2 : Hd} {x : D} {l : List D} {i : Int} {d : D} (p : a σ h = .ok x h1) (q : b σ h1 = .ok (.int i) h2) (s : seqOf h2 x = some l) (r : atI l i = some d) : fAt a b σ h = .ok d h2 := by
  show fBin _ _ _ _ _ = _; exact ev_bin p q (by simp only [oAt, s, r])
theorem ev_seq {h : Hd} {n : Nat} {l : List D} (p : h[n]? = some (.lst l)) : seqOf h (.ref n) = some l := by simp only [seqOf, p]
theorem ev_set {i : Nat} {e : EF} {σ : Sd} {h h' : Hd} {d : D} (p : e σ h = .ok d h') : sSet (gN i) e σ h = .nx (σ.set i (some d)) h' := by
  show outE _ _ _ = _; rw [p]; rfl
theorem ev_ret {e : EF} {σ : Sd} {h h' : Hd} {d : D} (p : e σ h = .ok d h') : sRet e σ h = .rt d h' := by
  show outE _ _ _ = _; rw [p]; rfl
theorem ev_exp {e : EF} {σ : Sd} {h h' : Hd} {d : D} (p : e σ h = .ok d h') : sExp e σ h = .nx σ h' := by
  show outE _ _ _ = _; rw [p]; rfl
theorem ev_t {t : TF} {a b : SF} {σ : Sd} {h h1 : Hd} (p : t σ h = .ok true h1) : sIf t a b σ h = a σ h1 := by
  unfold sIf; rw [p]; rfl
theorem ev_f {t : TF} {a b : SF} {σ : Sd} {h h1 : Hd} (p : t σ h = .ok false h1) : sIf t a b σ h = b σ h1 := by
  unfold sIf; rw [p]; rfl
theorem ev_b {a : EF} {σ : Sd} {h h' : Hd} {b : Bool} (p : a σ h = .ok (.bl b) h') : tE a σ h = .ok b h' := by
  show asB _ = _; rw [p]; rfl
theorem ev_not {t : TF} {σ : Sd} {h h' : Hd} {b : Bool} (p : t σ h = .ok b h') : tNot t σ h = .ok (!b) h' := by
  show Res.bind _ _ = _; rw [p]; rfl
theorem ev_and {t u : TF} {σ : Sd} {h h1 h' : Hd} {b : Bool} (p : t σ h = .ok true h1) (q : u σ h1 = .ok b h') : tAnd t u σ h = .ok b h' := by
  show Res.bind _ _ = _; rw [p]; exact q
theorem ev_andf {t u : TF} {σ : Sd} {h h1 : Hd} (p : t σ h = .ok false h1) : tAnd t u σ h = .ok false h1 := by
  show Res.bind _ _ = _; rw [p]; rfl
theorem ev_or {t u : TF} {σ : Sd} {h h1 h' : Hd} {b : Bool} (p : t σ h = .ok false h1) (q : u σ h1 = .ok b h') : tOr t u σ h = .ok b h' := by
  show Res.bind _ _ = _; rw [p]; exact q
theorem ev_ort {t u : TF} {σ : Sd} {h h1 : Hd} (p : t σ h = .ok true h1) : tOr t u σ h = .ok true h1 := by
  show Res.bind _ _ = _; rw [p]; rfl
theorem ev_eq {i j : Int} {h : Hd} : oEq (.int i) (.int j) h = .ok (.bl (decide (i = j))) h := rfl
theorem ev_len {a : LF} {σ : Sd} {h h1 : Hd} {l : List D} (p : a σ h = .ok l h1) : fLen a σ h = .ok (.int l.length) h1 := by
  show Res.bind _ _ = _; rw [p]; rfl
theorem ev_lof {a : EF} {σ : Sd} {h h1 : Hd} {x : D} {l : List D} (p : a σ h = .ok x h1) (s : seqOf h1 x = some l) : lOf a σ h = .ok l h1 := by
  show Res.bind _ _ = _; rw [p]; simp only [bind_ok, s]
theorem ev_put {x i e : EF} {σ : Sd} {h h1 h2 h3 : Hd} {d : D} {n k : Nat} {j : Int} {l : List D} (p : e σ h = .ok d h1) (q : x σ h1 = .ok (.ref n) h2) (r : i σ h2 = .ok (.int j) h3) (s : h3[n]? = some (.lst l)) (t : ixN l.length j = some k) : sPut x i e σ h = .nx σ (h3.set n (.lst (l.set k d))) := by
  simp only [sPut, p, q, r, outE, s, t]
theorem ev_app {x e : EF} {σ : Sd} {h h1 h2 : Hd} {d : D} {n : Nat} {l l0 : List D} (p : x σ h = .ok (.ref n) h1) (q : h1[n]? = some (.lst l0)) (r : e σ h1 = .ok d h2) (s : h2[n]? = some (.lst l)) (t : l.length < SZ) : fApp x e σ h = .ok .non (h2.set n (.lst (l ++ [d]))) := by
  simp only [fApp, p, bind_ok, q, r, oApp, s, if_pos t]
theorem ev_mod {i j : Int} {h : Hd} (p : 0 < j) : oMod (.int i) (.int j) h = .ok (.int (i % j)) h := by
  simp only [oMod, oIc, decide_eq_true p, if_true]
theorem ev_div {i j : Int} {h : Hd} (p : 0 < j) (q : j < 2 ^ 250) : oDiv (.int i) (.int j) h = .ok (.int (i / j)) h := by
  simp only [oDiv, oIc, decide_eq_true p, decide_eq_true q, Bool.and_self, if_true]
theorem ev_eqt {i j : Int} {h : Hd} (e : i = j) : oEq (.int i) (.int j) h = .ok (.bl true) h := by rw [ev_eq, decide_eq_true e]
theorem ev_eqf {i j : Int} {h : Hd} (e : ¬ i = j) : oEq (.int i) (.int j) h = .ok (.bl false) h := by rw [ev_eq, decide_eq_false e]
theorem ev_ltf {i j : Int} {h : Hd} (e : ¬ i < j) : oLt (.int i) (.int j) h = .ok (.bl false) h := by show Res.ok (D.bl (decide (i < j))) h = _; rw [decide_eq_false e]
theorem ev_ltt {i j : Int} {h : Hd} (e : i < j) : oLt (.int i) (.int j) h = .ok (.bl true) h := by show Res.ok (D.bl (decide (i < j))) h = _; rw [decide_eq_true e]
theorem ev_mul {i j : Int} {h : Hd} (p : (sml i || sml j) = true) : oMul (.int i) (.int j) h = .ok (.int (i * j)) h := by
  show (if (sml i || sml j) = true then _ else _) = _
  exact if_pos p
theorem ev_mul1 {i j : Int} {h : Hd} (p : sml i = true) : oMul (.int i) (.int j) h = .ok (.int (i * j)) h := ev_mul (by rw [p]; rfl)
theorem ev_mul2 {i j : Int} {h : Hd} (p : sml j = true) : oMul (.int i) (.int j) h = .ok (.int (i * j)) h := ev_mul (by rw [p, Bool.or_true])
theorem ev_fT {t : TF} {σ : Sd} {h h' : Hd} {b : Bool} (p : t σ h = .ok b h') : fT t σ h = .ok (.bl b) h' := by
  show Res.bind _ _ = _; rw [p]; rfl
theorem set_pre {h0 g : Hd} {A : Nat} (hA : A = h0.length) (k : Nat) (c : Cell) : (h0 ++ g).set (A + k) c = h0 ++ g.set k c := by
  subst hA
  rw [List.set_append_right _ _ (by omega)]
  congr 2; omega
theorem app_at {h0 : Hd} {j : Nat} {c : Cell} (g : Hd) (e : h0[j]? = some c) : (h0 ++ g)[j]? = some c := (List.getElem?_append_left (List.getElem?_eq_some_iff.mp e).1).trans e
theorem ev_range {a : EF} {σ : Sd} {h h1 : Hd} {n : Nat} (p : a σ h = .ok (.int n) h1) (hn : n ≤ 1000) : iRange a σ h = .ok ((List.range n).map (fun k : Nat => D.int k), none) h1 := by
  show Res.bind _ _ = _
  rw [p]
  exact if_pos ⟨Int.le_trans (by decide) (Int.natCast_nonneg n), Int.le_trans (Int.ofNat_le.mpr hn) (by decide)⟩
theorem ev_for {it : IF} {tg : GF} {b : SF} {σ : Sd} {h h1 : Hd} {l : List D} {g : Option Nat} {o : Out} (p : it σ h = .ok (l, g) h1) (q : forL g l tg b l σ h1 = o) : sFor it tg b σ h = o := by
  unfold sFor; rw [p]; exact q
theorem ev_comp {nl : Nat} {caps : List Nat} {it : IF} {tg : GF} {cs : List TF} {e : EF} {σ : Sd} {h h1 h2 : Hd} {l ds : List D} {g : Option Nat} (p : it σ h = .ok (l, g) h1) (q : compL g l tg cs e l (caught nl caps σ) h1 = .ok ds h2) : lComp nl caps it tg cs e σ h = .ok ds h2 := by
  show Res.bind _ _ = _; rw [p]; exact q
theorem ev_rep {la : LF} {b : EF} {σ : Sd} {h h1 h2 : Hd} {l : List D} {n : Int} (p : la σ h = .ok l h1) (q : b σ h1 = .ok (.int n) h2) (r : 0 ≤ n ∧ n ≤ 1000 ∧ l.length * n.toNat ≤ 1000) : lRep la b σ h = .ok (List.replicate n.toNat l).flatten h2 := by
  simp only [lRep, p, bind_ok, q, if_pos r]
theorem ev_inD {k : Int} {n : Nat} {h : Hd} {l : List (Int × D)} (p : h[n]? = some (.dct l)) : oInD (.int k) (.ref n) h = .ok (.bl (dval l k).isSome) h := by simp only [oInD, p]
theorem ev_putD {x i e : EF} {σ : Sd} {h h1 h2 h3 : Hd} {d : D} {n : Nat} {j : Int} {l : List (Int × D)} (p : e σ h = .ok d h1) (q : x σ h1 = .ok (.ref n) h2) (r : i σ h2 = .ok (.int j) h3) (s : h3[n]? = some (.dct l)) (t : l.length < SZ) : sPutD x i e σ h = .nx σ (h3.set n (.dct (dput l j d))) := by
  simp only [sPutD, p, q, r, outE, s, if_pos t]
theorem ev_isL {a : EF} {σ : Sd} {h h1 : Hd} {n : Nat} {l : List D} (p : a σ h = .ok (.ref n) h1) (q : h1[n]? = some (.lst l)) : fIsTy .list a σ h = .ok (.bl true) h1 := by
  simp only [fIsTy, p, bind_ok, isTy, q]; rfl
theorem ev_iseq {a : EF} {σ : Sd} {h h1 : Hd} {n : Nat} {l : List D} (p : a σ h = .ok (.ref n) h1) (q : h1[n]? = some (.lst l)) : iSeq a σ h = .ok (l, some n) h1 := by
  simp only [iSeq, p, bind_ok, q]
theorem ev_max {a b : EF} {σ : Sd} {h h1 h2 : Hd} {i j : Int} (p : a σ h = .ok (.int i) h1) (q : b σ h1 = .ok (.int j) h2) : fMax a b σ h = .ok (.int (if j > i then j else i)) h2 := by
  simp only [fMax, p, bind_ok, q]
theorem ev_int {a : EF} {σ : Sd} {h h1 : Hd} {b : Bool} (p : a σ h = .ok (.bl b) h1) : fInt a σ h = .ok (.int (b2i b)) h1 := by
  simp only [fInt, p, bind_ok]
theorem ev_sum {a : LF} {σ : Sd} {h h1 : Hd} {l : List D} {is : List Int} (p : a σ h = .ok l h1) (q : intsD l = some is) : fSum a σ h = .ok (.int is.sum) h1 := by
  simp only [fSum, p, bind_ok, q]
theorem ev_tupL {a : LF} {σ : Sd} {h h1 : Hd} {l : List D} (p : a σ h = .ok l h1) : fTupL a σ h = .ok (.tup l) h1 := by
  show Res.bind _ _ = _; rw [p]; rfl
theorem ev_gtt {i j : Int} {h : Hd} (e : j < i) : oGt (.int i) (.int j) h = .ok (.bl true) h := by show Res.ok (D.bl (decide (j < i))) h = _; rw [decide_eq_true e]
theorem ev_gtf {i j : Int} {h : Hd} (e : ¬ j < i) : oGt (.int i) (.int j) h = .ok (.bl false) h := by show Res.ok (D.bl (decide (j < i))) h = _; rw [decide_eq_false e]
theorem get_end {h : Hd} {A : Nat} (hA : A = h.length) (c : Cell) : (h ++ [c])[A]? = some c := by rw [hA]; exact List.getElem?_concat_length
theorem set_end {h : Hd} {A : Nat} (hA : A = h.length) (c d : Cell) : (h ++ [c]).set A d = h ++ [d] := by
  have := set_pre (g := [c]) hA 0 d
  rwa [Nat.add_zero] at this
theorem new_end {r : LF} {σ : Sd} {h h' : Hd} {xs : List D} {A : Nat} (hA : A = h'.length) (p : r σ h = .ok xs h') (q : xs.length ≤ SZ) : fNew r σ h = .ok (.ref A) (h' ++ [.lst xs]) := by rw [hA]; exact ev_new p q
theorem getD_at {l : List Int} {i : Nat} (h : i < l.length) : atI (l.map D.int) (i : Int) = some (.int (l.getD i 0)) := atI_nat (by rw [List.getElem?_map, List.getElem?_eq_getElem h, List.getD_eq_getElem?_getD, List.getElem?_eq_getElem h]; rfl)
theorem ev_ift {t : TF} {a b : EF} {σ : Sd} {h h1 : Hd} (p : t σ h = .ok true h1) : fIf t a b σ h = a σ h1 := by
  show Res.bind _ _ = _; rw [p]; rfl
theorem ev_iff {t : TF} {a b : EF} {σ : Sd} {h h1 : Hd} (p : t σ h = .ok false h1) : fIf t a b σ h = b σ h1 := by
  show Res.bind _ _ = _; rw [p]; rfl
theorem sq_nx {a b : SF} {σ σ' : Sd} {h h' : Hd} (e : a σ h = .nx σ' h') : sSeq a b σ h = b σ' h' := by simp only [sSeq, e]
theorem sq_rt {a b : SF} {σ : Sd} {h h' : Hd} {d : D} (e : a σ h = .rt d h') : sSeq a b σ h = .rt d h' := by simp only [sSeq, e]
theorem fn_rt {np n : Nat} {b : SF} {ds : List D} {σ : Sd} {h h' : Hd} {d : D} (hl : ds.length = np) (st : (ds.map some ++ List.replicate (n - ds.length) none : Sd) = σ) (e : b σ h = .rt d h') : mkFn np n b ds h = letGo h (.ok d h') := by
  unfold mkFn runB; rw [if_pos hl, st, e]
theorem fn_nx {np n : Nat} {b : SF} {ds : List D} {σ σ' : Sd} {h h' : Hd} (hl : ds.length = np) (st : (ds.map some ++ List.replicate (n - ds.length) none : Sd) = σ) (e : b σ h = .nx σ' h') : mkFn np n b ds h = letGo h (.ok .non h') := by
  unfold mkFn runB; rw [if_pos hl, st, e]
theorem ev_tests1 {t : TF} {σ : Sd} {h : Hd} {b : Bool} (p : t σ h = .ok b h) : tests [t] σ h = .ok b h := by
  simp only [tests, p, bind_ok]; cases b <;> rfl
theorem ev_iseqT {a : EF} {σ : Sd} {h h1 : Hd} {l : List D} (p : a σ h = .ok (.tup l) h1) : iSeq a σ h = .ok (l, none) h1 := by
  show Res.bind _ _ = _; rw [p]; rfl
theorem ev_all {a : LF} {σ : Sd} {h h1 : Hd} {l : List D} {bs : List Bool} (p : a σ h = .ok l h1) (q : bools l = some bs) : fAll a σ h = .ok (.bl (bs.all id)) h1 := by
  simp only [fAll, p, bind_ok, q]
theorem oNe_ii (a b : Int) (h : Hd) : oNe (.int a) (.int b) h = .ok (.bl (!decide (a = b))) h := rfl
theorem ev_min {a b : EF} {σ : Sd} {h h1 h2 : Hd} {i j : Int} (p : a σ h = .ok (.int i) h1) (q : b σ h1 = .ok (.int j) h2) : fMin a b σ h = .ok (.int (if j < i then j else i)) h2 := by
  simp only [fMin, p, bind_ok, q]
theorem ev_2 {a b : EF} {σ : Sd} {h h1 h2 : Hd} {d e : D} (p : a σ h = .ok d h1) (q : b σ h1 = .ok e h2) : aCons a (aCons b aNil) σ h = .ok [d, e] h2 := ev_cons p (ev_cons q rfl)
theorem le30 {n m : Nat} (h : n ≤ 30) (q : 30 ≤ m := by decide) : n ≤ m := Nat.le_trans h q
end Fm
set_option linter.all false
namespace Fm
noncomputable def F_is_whole : Fn := mkFn 1 1 (sRet (fT (tAnd (tE (fIsTy .int (fVar 0))) (tNot (tE (fIsTy .bool (fVar 0)))))))
noncomputable def F_is_between : Fn := mkFn 3 3 (sRet (fT (tAnd (tE (fCall F_is_whole (aCons (fVar 0) aNil))) (tE (fChain oLe oLe (fVar 1) (fVar 0) (fVar 2))))))
noncomputable def F_is_opinion : Fn := mkFn 1 1 (sRet (fCall F_is_between (aCons (fVar 0) (aCons (fC (.int 0)) (aCons (fC (.int 1)) aNil)))))
noncomputable def F_many_of : Fn := mkFn 1 1 (sRet (fLen (lOf (fAt (fVar 0) (fC (.int 0))))))
noncomputable def F_ties_of : Fn := mkFn 2 2 (sRet (fAt (fAt (fVar 0) (fC (.int 0))) (fVar 1)))
noncomputable def F_bar_of : Fn := mkFn 2 2 (sRet (fAt (fAt (fVar 0) (fC (.int 1))) (fVar 1)))
noncomputable def F_stay_of : Fn := mkFn 2 2 (sRet (fAt (fAt (fVar 0) (fC (.int 2))) (fVar 1)))
noncomputable abbrev B0_fits : SF := (sSeq (sIf (tNot (tE (fCall F_is_opinion (aCons (fVar 3) aNil)))) (sRet (fC (.bl false))) sNil)
    (sSeq (sSet (gN 4) (fCall F_stay_of (aCons (fVar 0) (aCons (fVar 2) aNil))))
    (sIf (tAnd (tE (fBin oIsNotN (fVar 4) (fC .non))) (tE (fBin oNe (fVar 3) (fVar 4)))) (sRet (fC (.bl false))) sNil)))
noncomputable def F_fits : Fn := mkFn 2 5 (sSeq (sIf (tOr (tNot (tE (fIsTy .tuple (fVar 1)))) (tE (fBin oNe (fLen (lOf (fVar 1))) (fCall F_many_of (aCons (fVar 0) aNil))))) (sRet (fC (.bl false))) sNil)
    (sSeq (sFor (iEnum (fVar 1)) (gT [2, 3]) B0_fits)
    (sRet (fC (.bl true)))))
noncomputable def F_check_stand : Fn := mkFn 2 2 (sIf (tNot (tE (fCall F_fits (aCons (fVar 0) (aCons (fVar 1) aNil))))) sBad sNil)
noncomputable def F_pull_at : Fn := mkFn 3 3 (sRet (fBin oMul (fC (.int 2)) (fSum (lComp 2 [1] (iSeq (fCall F_ties_of (aCons (fVar 0) (aCons (fVar 2) aNil)))) (gT [0, 1]) [(tE (fBin oEq (fAt (fVar 2) (fVar 0)) (fC (.int 1))))] (fVar 1)))))
theorem is_whole_int (i : Int) (h : Hd) : F_is_whole [.int i] h = .ok (.bl true) h := (fn_rt (d := .bl true) (h' := h) rfl rfl rfl).trans letGo_self
theorem is_between_int (i a b : Int) (h : Hd) : F_is_between [.int i, .int a, .int b] h = .ok (.bl (decide (a ≤ i) && decide (i ≤ b))) h := by
  have ch : fChain oLe oLe (fVar 1) (fVar 0) (fVar 2) [some (.int i), some (.int a), some (.int b)] h = .ok (.bl (decide (a ≤ i) && decide (i ≤ b))) h := by
    show (match D.bl (decide (a ≤ i)) with | .bl true => Res.ok (D.bl (decide (i ≤ b))) h | .bl false => .ok (.bl false) h | _ => .bad) = _
    cases decide (a ≤ i) <;> rfl
  have t : tAnd (tE (fCall F_is_whole (aCons (fVar 0) aNil))) (tE (fChain oLe oLe (fVar 1) (fVar 0) (fVar 2))) [some (.int i), some (.int a), some (.int b)] h = .ok (decide (a ≤ i) && decide (i ≤ b)) h := ev_and (ev_b (ev_call (ev_cons rfl rfl) (is_whole_int i h))) (ev_b ch)
  exact (fn_rt rfl rfl (ev_ret (ev_fT t))).trans letGo_self
theorem is_opinion_int (i : Int) (h : Hd) : F_is_opinion [.int i] h = .ok (.bl (decide (0 ≤ i) && decide (i ≤ 1))) h := by
  exact (fn_rt rfl rfl (ev_ret (ev_call (ev_cons rfl (ev_2 rfl rfl)) (is_between_int i 0 1 h)))).trans letGo_self
theorem many_of_web (w : Web) (h : Hd) : F_many_of [w.enc] h = .ok (.int w.ties.length) h := by
  have := (fn_rt (np := 1) (n := 1) (b := sRet (fLen (lOf (fAt (fVar 0) (fC (.int 0)))))) (ds := [w.enc]) (h := h) rfl rfl (ev_ret (ev_len (ev_lof (ev_at rfl rfl rfl rfl) rfl)))).trans letGo_self
  rwa [List.length_map] at this
theorem ties_of_web (w : Web) (h : Hd) {p : Nat} {r : List (Nat × Int)} (e : w.ties[p]? = some r) : F_ties_of [w.enc, .int p] h = .ok (encR r) h := by
  have q : atI (w.ties.map encR) (p : Int) = some (encR r) := atI_nat (by simp [e])
  exact (fn_rt rfl rfl (ev_ret (ev_at (ev_at rfl rfl rfl rfl) rfl rfl q))).trans letGo_self
theorem bar_of_web (w : Web) (h : Hd) {p : Nat} {r : Int} (e : w.bars[p]? = some r) : F_bar_of [w.enc, .int p] h = .ok (.int r) h := by
  have q : atI (w.bars.map .int) (p : Int) = some (.int r) := atI_nat (by simp [e])
  exact (fn_rt rfl rfl (ev_ret (ev_at (ev_at rfl rfl rfl rfl) rfl rfl q))).trans letGo_self
theorem stay_of_web (w : Web) (h : Hd) {p : Nat} {r : Option Int} (e : w.stays[p]? = some r) : F_stay_of [w.enc, .int p] h = .ok (encO r) h := by
  have q : atI (w.stays.map encO) (p : Int) = some (encO r) := atI_nat (by simp [e])
  exact (fn_rt rfl rfl (ev_ret (ev_at (ev_at rfl rfl rfl rfl) rfl rfl q))).trans letGo_self
theorem fits_ok {w : Web} {n : Nat} {s : List Int} (W : w.Ok n) (F : Fits w n s) (h : Hd) : F_fits [w.enc, encI s] h = .ok (.bl true) h := by
  obtain ⟨σ', h', h1, h2, a, b, c, h3⟩ := forL_next (P := fun _ σ h' => h' = h ∧ ∃ a b c, σ = [some w.enc, some (encI s), a, b, c]) (g := none) (k := 0)
      (all := ((List.range (s.map D.int).length).zip (s.map D.int)).map fun p => D.tup [.int (p.1 : Nat), p.2]) (fun _ _ _ _ => trivial)
      (xs := ((List.range (s.map D.int).length).zip (s.map D.int)).map fun p => D.tup [.int (p.1 : Nat), p.2]) (tg := gT [2, 3]) (σ := [some w.enc, some (encI s), none, none, none]) (h := h)
      (b := B0_fits) (by
      rintro i x σ h0 hx ⟨rfl, a, b, c, rfl⟩
      have hi : i < s.length := by
        have := (List.getElem?_eq_some_iff.mp hx).1
        simpa using this
      have hx' : x = .tup [.int (i : Nat), .int s[i]] := by simpa [hi, List.getElem?_eq_getElem] using hx.symm
      subst hx'
      have hs : w.stays[i]? = some (w.stays[i]'(by rw [W.s, ← F.len]; exact hi)) := List.getElem?_eq_getElem _
      generalize w.stays[i]'(by rw [W.s, ← F.len]; exact hi) = st at hs
      have op : F_is_opinion [.int s[i]] h0 = .ok (.bl true) h0 := by
        rw [is_opinion_int]; rcases F.op _ (List.getElem_mem hi) with e | e <;> rw [e] <;> rfl
      have s1 : sIf (tNot (tE (fCall F_is_opinion (aCons (fVar 3) aNil)))) (sRet (fC (.bl false))) sNil [some w.enc, some (encI s), some (.int i), some (.int s[i]), c] h0 = .nx [some w.enc, some (encI s), some (.int i), some (.int s[i]), c] h0 := ev_f (ev_not (ev_b (ev_call (ev_cons rfl rfl) op)))
      have sv := stay_of_web w h0 hs
      cases st with
      | none => exact ⟨_, rfl, _, h0, (sq_nx s1).trans ((sq_nx (ev_set (ev_call (ev_2 rfl rfl) sv))).trans (ev_f (ev_andf (ev_b (ev_bin rfl rfl rfl))))), rfl, _, _, _, rfl⟩
      | some y =>
        have hy : s[i] = y := by have := F.st i y hs; rw [List.getElem?_eq_getElem hi] at this; exact Option.some.inj this
        exact ⟨_, rfl, _, h0, (sq_nx s1).trans ((sq_nx (ev_set (ev_call (ev_2 rfl rfl) sv))).trans (ev_f (ev_and (ev_b (ev_bin rfl rfl rfl)) (ev_b (ev_bin rfl rfl (by rw [show encO (some y) = D.int y from rfl, oNe_ii, decide_eq_true hy]; rfl)))))), rfl, _, _, _, rfl⟩) ⟨rfl, _, _, _, rfl⟩
  rw [h2, h3] at h1
  have s1 : sIf (tOr (tNot (tE (fIsTy .tuple (fVar 1)))) (tE (fBin oNe (fLen (lOf (fVar 1))) (fCall F_many_of (aCons (fVar 0) aNil))))) (sRet (fC (.bl false))) sNil [some w.enc, some (encI s), none, none, none] h = .nx [some w.enc, some (encI s), none, none, none] h :=
    ev_f (ev_or (ev_not (b := true) (ev_b rfl)) (ev_b (ev_bin (ev_len (ev_lof rfl rfl)) (ev_call (ev_cons rfl rfl) (many_of_web w h)) (by rw [oNe_ii, List.length_map, F.len, W.t, decide_eq_true rfl]; rfl))))
  exact (fn_rt rfl rfl ((sq_nx s1).trans ((sq_nx (ev_for rfl h1)).trans (ev_ret rfl)))).trans letGo_self
theorem check_ok {w : Web} {n : Nat} {s : List Int} (W : w.Ok n) (F : Fits w n s) (h : Hd) : F_check_stand [w.enc, encI s] h = .ok .non h := by
  exact (fn_nx rfl rfl (ev_f (ev_not (ev_b (ev_call (ev_2 rfl rfl) (fits_ok W F h)))))).trans letGo_self
theorem intsD_map (l : List Int) : intsD (l.map .int) = some l := by
  induction l with
  | nil => rfl
  | cons x xs ih => simp [intsD, ih]
theorem at_enc {s : List Int} {i : Nat} (h : i < s.length) : atI (s.map .int) (i : Int) = some (.int s[i]) := atI_nat (by simp [h])
noncomputable def pulledL (r : List (Nat × Int)) (s : List Int) : List Int := (r.filter fun p => decide (s.getD p.1 0 = 1)).map (·.2)
noncomputable def pulled (r : List (Nat × Int)) (s : List Int) : Int := (pulledL r s).sum
theorem pull_at_ok {w : Web} {n : Nat} {s : List Int} (W : w.Ok n) (hs : s.length = n) {p : Nat} {r : List (Nat × Int)} (e : w.ties[p]? = some r) (h : Hd) :
    F_pull_at [w.enc, encI s, .int p] h = .ok (.int (2 * pulled r s)) h := by
  have hr : ∀ q ∈ r, q.1 < s.length := fun q hq => by rw [hs]; exact W.lt r (List.mem_of_getElem? e) q hq
  have key : compL none (r.map encP) (gT [0, 1]) [(tE (fBin oEq (fAt (fVar 2) (fVar 0)) (fC (.int 1))))] (fVar 1) (r.map encP) [none, none, some (encI s)] h
      = .ok (((r.map encP).filter fun d => match d with | .tup [.int i, _] => decide (s.getD i.toNat 0 = 1) | _ => false).map fun d => match d with | .tup [_, x] => x | _ => .non) h := by
    refine compL_pure (g := none) (I := fun σ => ∃ a b, σ = [a, b, some (encI s)]) _ _ trivial ?_ ⟨_, _, rfl⟩
    rintro x hx σ ⟨a, b, rfl⟩
    obtain ⟨⟨q, wt⟩, hq, rfl⟩ := List.mem_map.mp hx
    have hlt := hr _ hq
    exact ⟨_, rfl, ⟨_, _, rfl⟩, ev_tests1 (ev_b (ev_bin (ev_at rfl rfl rfl (getD_at hlt)) rfl ev_eq)), fun _ => rfl⟩
  have k2 : (((r.map encP).filter fun d => match d with | .tup [.int i, _] => decide (s.getD i.toNat 0 = 1) | _ => false).map fun d => match d with | .tup [_, x] => x | _ => .non)
      = (pulledL r s).map D.int := by
    rw [pulledL, List.filter_map, List.map_map, List.map_map]
    rfl
  rw [k2] at key
  exact (fn_rt rfl rfl (ev_ret (ev_bin rfl (ev_sum (ev_comp (ev_iseqT (ev_call (ev_2 rfl rfl) (ties_of_web w h e))) key) (intsD_map _)) (ev_mul1 (by decide))))).trans letGo_self
theorem bit_sml {x : Int} (h : x = 0 ∨ x = 1) : sml x = true := by rcases h with e | e <;> subst e <;> decide
end Fm
set_option linter.all false
namespace Fm
noncomputable def F_next_at : Fn := mkFn 3 6 (sSeq (sSet (gN 3) (fCall F_stay_of (aCons (fVar 0) (aCons (fVar 2) aNil))))
    (sSeq (sIf (tE (fBin oIsNotN (fVar 3) (fC .non))) (sRet (fVar 3)) sNil)
    (sSeq (sSet (gN 4) (fCall F_pull_at (aCons (fVar 0) (aCons (fVar 1) (aCons (fVar 2) aNil)))))
    (sSeq (sSet (gN 5) (fCall F_bar_of (aCons (fVar 0) (aCons (fVar 2) aNil))))
    (sSeq (sIf (tE (fBin oEq (fVar 4) (fVar 5))) (sRet (fAt (fVar 1) (fVar 2))) sNil)
    (sRet (fIf (tE (fBin oGt (fVar 4) (fVar 5))) (fC (.int 1)) (fC (.int 0)))))))))
noncomputable def F_turn_at : Fn := mkFn 2 2 (sRet (fTupL (lComp 1 [0, 1] (iRange (fCall F_many_of (aCons (fVar 0) aNil))) (gN 0) [] (fCall F_next_at (aCons (fVar 1) (aCons (fVar 2) (aCons (fVar 0) aNil)))))))
noncomputable abbrev B0_history : SF := (sExp (fApp (fVar 3) (fCall F_turn_at (aCons (fVar 0) (aCons (fAt (fVar 3) (fVar 4)) aNil)))))
noncomputable def F_history : Fn := mkFn 3 5 (sSeq (sExp (fCall F_check_stand (aCons (fVar 0) (aCons (fVar 1) aNil))))
    (sSeq (sIf (tE (fBin oGt (fVar 2) (fC (.int 400)))) sBad sNil)
    (sSeq (sSet (gN 3) (fNew (aCons (fVar 1) aNil)))
    (sSeq (sFor (iRange (fVar 2)) (gN 4) B0_history)
    (sRet (fVar 3))))))
noncomputable abbrev B0_ended : SF := (sSeq (sExp (fApp (fVar 2) (fVar 3)))
    (sSet (gN 3) (fCall F_turn_at (aCons (fVar 0) (aCons (fVar 3) aNil)))))
noncomputable def F_ended : Fn := mkFn 2 5 (sSeq (sExp (fCall F_check_stand (aCons (fVar 0) (aCons (fVar 1) aNil))))
    (sSeq (sSet (gN 2) (fNew (aCons (fVar 1) (aCons (fCall F_turn_at (aCons (fVar 0) (aCons (fVar 1) aNil))) aNil))))
    (sSeq (sSet (gN 3) (fCall F_turn_at (aCons (fVar 0) (aCons (fAt (fVar 2) (fC (.int 1))) aNil))))
    (sSeq (sWhile (tE (fBin oNe (fVar 3) (fAt (fVar 2) (fC (.int (-2)))))) B0_ended)
    (sSeq (sSet (gN 4) (fIf (tE (fBin oEq (fAt (fVar 2) (fC (.int (-1)))) (fAt (fVar 2) (fC (.int (-2)))))) (fC (.str [114, 101, 115, 116])) (fC (.str [112, 97, 105, 114]))))
    (sRet (fTup (aCons (fBin oSub (fLen (lOf (fVar 2))) (fC (.int 2))) (aCons (fVar 4) (aCons (fVar 2) aNil))))))))))
noncomputable def nextI (w : Web) (s : List Int) (p : Nat) : Int := match w.stays.getD p none with
  | some x => x
  | none => if 2 * pulled (w.ties.getD p []) s = w.bars.getD p 0 then s.getD p 0 else if w.bars.getD p 0 < 2 * pulled (w.ties.getD p []) s then 1 else 0
noncomputable def turnS (w : Web) (n : Nat) (s : List Int) : List Int := (List.range n).map (nextI w s)
theorem next_at_ok {w : Web} {n : Nat} {s : List Int} (W : w.Ok n) (F : Fits w n s) {p : Nat} (hp : p < n) (h : Hd) : F_next_at [w.enc, encI s, .int p] h = .ok (.int (nextI w s p)) h := by
  have ht : p < w.ties.length := by rw [W.t]; exact hp
  have hb : p < w.bars.length := by rw [W.b]; exact hp
  have hst : p < w.stays.length := by rw [W.s]; exact hp
  have hs : p < s.length := by rw [F.len]; exact hp
  have et : w.ties[p]? = some w.ties[p] := by simp [ht]
  have eb : w.bars[p]? = some w.bars[p] := by simp [hb]
  have es : w.stays[p]? = some w.stays[p] := by simp [hst]
  have pull := pull_at_ok W F.len et h
  have gt : w.ties.getD p [] = w.ties[p] := by simp [List.getD, ht]
  have gb : w.bars.getD p 0 = w.bars[p] := by simp [List.getD, hb]
  have gs : w.stays.getD p none = w.stays[p] := by simp [List.getD, hst]
  have gi : s.getD p 0 = s[p] := by simp [List.getD, hs]
  have ai := at_enc hs
  cases c : w.stays[p] with
  | some x =>
    rw [c] at es
    have nx : nextI w s p = x := by unfold nextI; rw [gs, c]
    rw [nx]
    exact (fn_rt rfl rfl ((sq_nx (ev_set (ev_call (ev_2 rfl rfl) (stay_of_web w h es)))).trans (sq_rt ((ev_t (ev_b (ev_bin rfl rfl rfl))).trans (ev_ret rfl))))).trans letGo_self
  | none =>
    rw [c] at es
    have sv := stay_of_web w h es
    have bv := bar_of_web w h eb
    simp only [nextI, gs, c, gt, gb, gi]
    have s1 : sSet (gN 3) (fCall F_stay_of (aCons (fVar 0) (aCons (fVar 2) aNil))) [some w.enc, some (encI s), some (.int p), none, none, none] h = .nx [some w.enc, some (encI s), some (.int p), some .non, none, none] h := ev_set (ev_call (ev_2 rfl rfl) sv)
    have s2 : sIf (tE (fBin oIsNotN (fVar 3) (fC .non))) (sRet (fVar 3)) sNil [some w.enc, some (encI s), some (.int p), some .non, none, none] h = .nx [some w.enc, some (encI s), some (.int p), some .non, none, none] h := ev_f (ev_b (ev_bin rfl rfl rfl))
    generalize 2 * pulled w.ties[p] s = P at pull
    have s3 : sSet (gN 4) (fCall F_pull_at (aCons (fVar 0) (aCons (fVar 1) (aCons (fVar 2) aNil)))) [some w.enc, some (encI s), some (.int p), some .non, none, none] h = .nx [some w.enc, some (encI s), some (.int p), some .non, some (.int P), none] h := ev_set (ev_call (ev_cons rfl (ev_2 rfl rfl)) pull)
    have s4 : sSet (gN 5) (fCall F_bar_of (aCons (fVar 0) (aCons (fVar 2) aNil))) [some w.enc, some (encI s), some (.int p), some .non, some (.int P), none] h = .nx [some w.enc, some (encI s), some (.int p), some .non, some (.int P), some (.int w.bars[p])] h := ev_set (ev_call (ev_2 rfl rfl) bv)
    have go : ∀ {v : Int}, sSeq (sIf (tE (fBin oEq (fVar 4) (fVar 5))) (sRet (fAt (fVar 1) (fVar 2))) sNil) (sRet (fIf (tE (fBin oGt (fVar 4) (fVar 5))) (fC (.int 1)) (fC (.int 0)))) [some w.enc, some (encI s), some (.int p), some .non, some (.int P), some (.int w.bars[p])] h = .rt (.int v) h → F_next_at [w.enc, encI s, .int p] h = .ok (.int v) h := fun e => (fn_rt rfl rfl ((sq_nx s1).trans ((sq_nx s2).trans ((sq_nx s3).trans ((sq_nx s4).trans e))))).trans letGo_self
    by_cases e1 : P = w.bars[p]
    · rw [if_pos e1]; exact go (sq_rt ((ev_t (ev_b (ev_bin rfl rfl (ev_eqt e1)))).trans (ev_ret (ev_at rfl rfl rfl ai))))
    · rw [if_neg e1]
      by_cases e2 : w.bars[p] < P
      · rw [if_pos e2]; exact go ((sq_nx (ev_f (ev_b (ev_bin rfl rfl (ev_eqf e1))))).trans (ev_ret ((ev_ift (ev_b (ev_bin rfl rfl (ev_gtt e2)))).trans rfl)))
      · rw [if_neg e2]; exact go ((sq_nx (ev_f (ev_b (ev_bin rfl rfl (ev_eqf e1))))).trans (ev_ret ((ev_iff (ev_b (ev_bin rfl rfl (ev_gtf e2)))).trans rfl)))
theorem turn_at_ok {w : Web} {n : Nat} {s : List Int} (W : w.Ok n) (F : Fits w n s) (h : Hd) : F_turn_at [w.enc, encI s] h = .ok (encI (turnS w n s)) h := by
  have key : compL none ((List.range n).map fun k : Nat => D.int k) (gN 0) [] (fCall F_next_at (aCons (fVar 1) (aCons (fVar 2) (aCons (fVar 0) aNil)))) ((List.range n).map fun k : Nat => D.int k) [none, some w.enc, some (encI s)] h
      = .ok (((((List.range n).map fun k : Nat => D.int k).filter fun _ => true)).map fun d => match d with | .int i => .int (nextI w s i.toNat) | _ => .non) h := by
    refine compL_pure (g := none) (I := fun σ => ∃ a, σ = [a, some w.enc, some (encI s)]) _ _ trivial ?_ ⟨_, rfl⟩
    rintro x hx σ ⟨a, rfl⟩
    obtain ⟨i, hi, rfl⟩ := List.mem_map.mp hx
    have hi := List.mem_range.mp hi
    exact ⟨_, rfl, ⟨_, rfl⟩, by simp, fun _ => ev_call (ev_cons rfl (ev_2 rfl rfl)) (next_at_ok W F hi h)⟩
  have k2 : ((((List.range n).map fun k : Nat => D.int k).filter fun _ => true)).map (fun d => match d with | .int i => D.int (nextI w s i.toNat) | _ => .non) = (turnS w n s).map D.int := by
    rw [List.filter_eq_self.mpr (by simp), List.map_map, turnS, List.map_map]; rfl
  rw [k2] at key
  have mq : F_many_of [w.enc] h = .ok (.int n) h := W.t ▸ many_of_web w h
  exact (fn_rt rfl rfl (ev_ret (ev_tupL (ev_comp (ev_range (ev_call (ev_cons rfl rfl) mq) W.sz) key)))).trans letGo_self
noncomputable def StayOk (w : Web) : Prop := ∀ x ∈ w.stays, x = none ∨ x = some 0 ∨ x = some 1
theorem fits_bit {w : Web} {n : Nat} {s : List Int} (F : Fits w n s) (i : Nat) : s.getD i 0 = 0 ∨ s.getD i 0 = 1 := by
  by_cases hi : i < s.length
  · rw [List.getD, List.getElem?_eq_getElem hi]; exact F.op _ (List.getElem_mem hi)
  · rw [List.getD, List.getElem?_eq_none (by omega)]; exact .inl rfl
theorem next_bit {w : Web} {n : Nat} {s : List Int} (F : Fits w n s) (S : StayOk w) (p : Nat) : nextI w s p = 0 ∨ nextI w s p = 1 := by
  unfold nextI
  cases c : w.stays.getD p none with
  | some x =>
    have : some x ∈ w.stays := by
      rw [List.getD] at c
      cases e : w.stays[p]? with
      | none => rw [e] at c; cases c
      | some y => rw [e] at c; simp at c; subst c; exact List.mem_of_getElem? e
    have := S _ this
    simp at this
    exact this
  | none =>
    simp only
    split
    · exact fits_bit F p
    · split <;> simp
theorem turn_fits {w : Web} {n : Nat} {s : List Int} (W : w.Ok n) (S : StayOk w) (F : Fits w n s) : Fits w n (turnS w n s) where
  len := by simp [turnS]
  op := fun x hx => by
    obtain ⟨p, hp, rfl⟩ := List.mem_map.mp hx
    exact next_bit F S p
  st := fun i x e => by
    have hi : i < n := by rw [← W.s]; exact (List.getElem?_eq_some_iff.mp e).1
    have : w.stays.getD i none = some x := by simp [List.getD, e]
    have hn : nextI w s i = x := by unfold nextI; rw [this]
    simp [turnS, hi, hn]
noncomputable def hist (w : Web) (n : Nat) (s : List Int) : Nat → List Int
  | 0 => s
  | k + 1 => turnS w n (hist w n s k)
theorem hist_fits {w : Web} {n : Nat} {s : List Int} (W : w.Ok n) (S : StayOk w) (F : Fits w n s) : ∀ k, Fits w n (hist w n s k)
  | 0 => F
  | k + 1 => turn_fits W S (hist_fits W S F k)
noncomputable def histL (w : Web) (n : Nat) (s : List Int) (m : Nat) : List (List Int) := (List.range m).map (hist w n s)
theorem histL_succ {w : Web} {n : Nat} {s : List Int} (m : Nat) : histL w n s (m + 1) = histL w n s m ++ [hist w n s m] := by simp [histL, List.range_succ]
theorem histL_len {w : Web} {n : Nat} {s : List Int} (m : Nat) : (histL w n s m).length = m := by simp [histL]
theorem histL_at {w : Web} {n : Nat} {s : List Int} {m i : Nat} (h : i < m) : atI ((histL w n s m).map encI) (i : Int) = some (encI (hist w n s i)) := atI_nat (by simp [histL, h])
theorem history_ok {w : Web} {n : Nat} {s : List Int} (W : w.Ok n) (S : StayOk w) (F : Fits w n s) {m : Nat} (hm : m ≤ 400) (h : Hd) :
    F_history [w.enc, encI s, .int m] h = .ok (.ref h.length) (h ++ [.lst ((histL w n s (m + 1)).map encI)]) := by
  obtain ⟨σ', h', h1, h2, x, h3⟩ := forL_next (P := fun k σ h' => h' = h ++ [.lst ((histL w n s (k + 1)).map encI)] ∧ ∃ x, σ = [some w.enc, some (encI s), some (.int m), some (.ref h.length), x]) (g := none) (k := 0)
      (all := (List.range m).map fun k : Nat => D.int k) (fun _ _ _ _ => trivial)
      (xs := (List.range m).map fun k : Nat => D.int k) (tg := gN 4) (σ := [some w.enc, some (encI s), some (.int m), some (.ref h.length), none]) (h := h ++ [.lst [encI s]])
      (b := B0_history) (by
      rintro i x σ h0 hx ⟨rfl, c, rfl⟩
      have hi : i < m := by
        have := (List.getElem?_eq_some_iff.mp hx).1
        simpa using this
      have hx' : x = .int (i : Nat) := by simpa [hi, List.getElem?_eq_getElem] using hx.symm
      subst hx'
      rw [Nat.zero_add]
      have ai := histL_at (w := w) (n := n) (s := s) (m := i + 1) (i := i) (Nat.lt_succ_self i)
      have tk := turn_at_ok W (hist_fits W S F i) (h ++ [.lst ((histL w n s (i + 1)).map encI)])
      have lz : ((histL w n s (i + 1)).map encI).length < SZ := by rw [List.length_map, histL_len]; exact Nat.lt_of_le_of_lt (Nat.le_trans (Nat.succ_le_of_lt hi) hm) (by decide)
      refine ⟨_, rfl, [some w.enc, some (encI s), some (.int m), some (.ref h.length), some (.int i)], h ++ [.lst ((histL w n s (i + 1 + 1)).map encI)], ?_, rfl, _, rfl⟩
      exact (ev_exp (ev_app rfl List.getElem?_concat_length (ev_call (ev_cons rfl (ev_cons (ev_at rfl rfl (ev_seq List.getElem?_concat_length) ai) rfl)) tk) List.getElem?_concat_length lz)).trans (by rw [set_end rfl, histL_succ (i + 1), List.map_append]; rfl)) ⟨rfl, _, rfl⟩
  have e0 : 0 + ((List.range m).map fun k : Nat => D.int k).length = m := by simp
  rw [e0] at h2
  subst h2 h3
  have z3 : ¬ (400 : Int) < m := Int.not_lt.mpr (Int.ofNat_le.mpr hm)
  have e2 : sSet (gN 3) (fNew (aCons (fVar 1) aNil)) [some w.enc, some (encI s), some (.int m), none, none] h = .nx [some w.enc, some (encI s), some (.int m), some (.ref h.length), none] (h ++ [.lst [encI s]]) := ev_set (ev_new (ev_cons rfl rfl))
  exact (fn_rt rfl rfl ((sq_nx (ev_exp (ev_call (ev_2 rfl rfl) (check_ok W F h)))).trans ((sq_nx (ev_f (ev_b (ev_bin rfl rfl (ev_gtf z3))))).trans ((sq_nx e2).trans ((sq_nx (ev_for (ev_range rfl (Nat.le_trans hm (by decide))) h1)).trans (ev_ret rfl)))))).trans letGo_ref'
end Fm
set_option linter.all false
namespace Fm
noncomputable def F_is_tie : Fn := mkFn 2 4 (sSeq (sIf (tOr (tNot (tE (fIsTy .tuple (fVar 1)))) (tE (fBin oNe (fLen (lOf (fVar 1))) (fC (.int 3))))) (sRet (fC (.bl false))) sNil)
    (sSeq (sSet (gN 2) (fAt (fVar 1) (fC (.int 0))))
    (sSeq (sSet (gN 3) (fAt (fVar 1) (fC (.int 1))))
    (sSeq (sIf (tOr (tNot (tE (fCall F_is_between (aCons (fVar 2) (aCons (fC (.int 0)) (aCons (fBin oSub (fVar 0) (fC (.int 1))) aNil)))))) (tNot (tE (fCall F_is_between (aCons (fVar 3) (aCons (fC (.int 0)) (aCons (fBin oSub (fVar 0) (fC (.int 1))) aNil))))))) (sRet (fC (.bl false))) sNil)
    (sRet (fT (tAnd (tE (fBin oNe (fVar 2) (fVar 3))) (tE (fCall F_is_between (aCons (fAt (fVar 1) (fC (.int 2))) (aCons (fC (.int 1)) (aCons (fC (.int 400)) aNil))))))))))))
noncomputable abbrev B0_neighbours : SF := (sSeq (sIf (tNot (tE (fCall F_is_tie (aCons (fVar 0) (aCons (fVar 3) aNil))))) sBad sNil)
    (sSeq (sSet (gN 4) (fAt (fVar 3) (fC (.int 0))))
    (sSeq (sSet (gN 5) (fAt (fVar 3) (fC (.int 1))))
    (sSeq (sIf (tE (fBin oInD (fVar 5) (fAt (fVar 2) (fVar 4)))) sBad sNil)
    (sSeq (sPutD (fAt (fVar 2) (fVar 4)) (fVar 5) (fAt (fVar 3) (fC (.int 2))))
    (sPutD (fAt (fVar 2) (fVar 5)) (fVar 4) (fAt (fVar 3) (fC (.int 2)))))))))
noncomputable def F_neighbours : Fn := mkFn 2 6 (sSeq (sIf (tNot (tE (fIsTy .list (fVar 1)))) sBad sNil)
    (sSeq (sSet (gN 2) (fNew (lComp 1 [] (iRange (fVar 0)) (gN 0) [] fDNew)))
    (sSeq (sFor (iSeq (fVar 1)) (gN 3) B0_neighbours)
    (sRet (fVar 2)))))
noncomputable def F_bars_told : Fn := mkFn 2 2 (sSeq (sIf (tE (fBin oIsN (fVar 1) (fC .non))) sBad sNil)
    (sSeq (sIf (tOr (tNot (tE (fIsTy .list (fVar 1)))) (tE (fBin oNe (fLen (lOf (fVar 1))) (fLen (lOf (fVar 0)))))) sBad sNil)
    (sSeq (sIf (tNot (tE (fAll (lComp 1 [] (iSeq (fVar 1)) (gN 0) [] (fCall F_is_whole (aCons (fVar 0) aNil)))))) sBad sNil)
    (sRet (fTupL (lOf (fVar 1)))))))
noncomputable def F_stays_told : Fn := mkFn 2 2 (sSeq (sIf (tE (fBin oIsN (fVar 1) (fC .non))) (sRet (fTupL (lComp 1 [] (iRange (fVar 0)) (gN 0) [] (fC .non)))) sNil)
    (sSeq (sIf (tOr (tNot (tE (fIsTy .list (fVar 1)))) (tE (fBin oNe (fLen (lOf (fVar 1))) (fVar 0)))) sBad sNil)
    (sSeq (sIf (tNot (tE (fAll (lComp 1 [] (iSeq (fVar 1)) (gN 0) [] (fT (tOr (tE (fBin oIsN (fVar 0) (fC .non))) (tE (fCall F_is_opinion (aCons (fVar 0) aNil))))))))) sBad sNil)
    (sRet (fTupL (lOf (fVar 1)))))))
noncomputable def F_web_of : Fn := mkFn 4 6 (sSeq (sIf (tNot (tE (fCall F_is_between (aCons (fVar 0) (aCons (fC (.int 1)) (aCons (fC (.int 30)) aNil)))))) sBad sNil)
    (sSeq (sSet (gN 4) (fCall F_neighbours (aCons (fVar 0) (aCons (fVar 1) aNil))))
    (sSeq (sSet (gN 5) (fTupL (lComp 1 [] (iSeq (fVar 4)) (gN 0) [] (fTupL (lSortI (fVar 0))))))
    (sRet (fTup (aCons (fVar 5) (aCons (fCall F_bars_told (aCons (fVar 4) (aCons (fVar 2) aNil))) (aCons (fCall F_stays_told (aCons (fVar 0) (aCons (fVar 3) aNil))) aNil))))))))
end Fm
set_option linter.all false
namespace Fm
theorem seq_nx' {a b : SF} {σ σ' : Sd} {h h' : Hd} (e : a σ h = .nx σ' h') : sSeq a b σ h = b σ' h' := by simp [sSeq, e]
theorem seq_rt' {a b : SF} {σ : Sd} {h h' : Hd} {d : D} (e : a σ h = .rt d h') : sSeq a b σ h = .rt d h' := by simp [sSeq, e]
theorem sml_of' {x : Int} (h0 : 0 ≤ x) (h1 : x < 4611686018427387904) : sml x = true := by
  simp only [sml, Bool.and_eq_true, decide_eq_true_eq]; omega
theorem at_map' {α : Type} {f : α → D} {l : List α} {i : Nat} (h : i < l.length) : atI (l.map f) (i : Int) = some (f l[i]) := atI_nat (by simp [h])
end Fm
set_option linter.all false
namespace Fm
theorem range_at' {n i : Nat} {x : D} (hx : ((List.range n).map fun k : Nat => D.int k)[i]? = some x) : i < n ∧ x = .int (i : Nat) := by
  have hi : i < n := by
    have := (List.getElem?_eq_some_iff.mp hx).1
    simpa using this
  exact ⟨hi, by simpa [hi, List.getElem?_eq_getElem] using hx.symm⟩
theorem pick' {α : Type} (f : α → D) (l : List α) {x : Int} (h0 : 0 ≤ x) (h : x < l.length) : ∃ v ∈ l, atI (l.map f) x = some (f v) := by
  have h3 : x.toNat < l.length := by omega
  refine ⟨l[x.toNat], List.getElem_mem h3, ?_⟩
  have := at_map' (f := f) h3
  rwa [show ((x.toNat : Nat) : Int) = x by omega] at this
structure Tie where
  a : Nat
  b : Nat
  w : Int
noncomputable def encT (t : Tie) : D := .tup [.int t.a, .int t.b, .int t.w]
noncomputable def far (i : Nat) (t : Tie) : Option Nat := if t.a = i then some t.b else if t.b = i then some t.a else none
noncomputable def Below (one other : Nat) (t : Tie) : Prop := (t.a < one ∧ t.b < one) ∨ (t.a = one ∧ t.b < other) ∨ (t.b = one ∧ t.a < other)
noncomputable def Unlike (s t : Tie) : Prop := ¬ (s.a = t.a ∧ s.b = t.b) ∧ ¬ (s.a = t.b ∧ s.b = t.a)
structure TOk (n one other : Nat) (T : List Tie) : Prop where
  ne : ∀ t ∈ T, t.a ≠ t.b
  lt : ∀ t ∈ T, t.a < n ∧ t.b < n
  wt : ∀ t ∈ T, 1 ≤ t.w ∧ t.w ≤ 400
  be : ∀ t ∈ T, Below one other t
  un : T.Pairwise Unlike
  len : T.length ≤ 30 * one + other
theorem Unlike.symm {s t : Tie} (h : Unlike s t) : Unlike t s := ⟨fun z => h.1 ⟨z.1.symm, z.2.symm⟩, fun z => h.2 ⟨z.2.symm, z.1.symm⟩⟩
theorem TOk.skip {n one other : Nat} {T : List Tie} (o : TOk n one other T) : TOk n one (other + 1) T :=
  ⟨o.ne, o.lt, o.wt, fun t ht => by
    rcases o.be t ht with h | h | h
    · exact .inl h
    · exact .inr (.inl ⟨h.1, Nat.lt_succ_of_lt h.2⟩)
    · exact .inr (.inr ⟨h.1, Nat.lt_succ_of_lt h.2⟩), o.un, Nat.le_succ_of_le o.len⟩
theorem TOk.step {n one : Nat} {T : List Tie} (o : TOk n one one T) (h : one < n) (hn : n ≤ 30) : TOk n (one + 1) 0 T :=
  ⟨o.ne, o.lt, o.wt, fun t ht => by
    rcases o.be t ht with h | h | h
    · exact .inl ⟨Nat.lt_succ_of_lt h.1, Nat.lt_succ_of_lt h.2⟩
    · exact .inl ⟨Nat.lt_succ_of_le (Nat.le_of_eq h.1), Nat.lt_succ_of_lt h.2⟩
    · exact .inl ⟨Nat.lt_succ_of_lt h.2, Nat.lt_succ_of_le (Nat.le_of_eq h.1)⟩, o.un, Nat.le_trans o.len (Nat.add_le_add_left (Nat.le_trans (Nat.le_of_lt h) hn) _)⟩
theorem mem_ins {α : Type} {x y : α} {l : List α} {k : Nat} (h : y ∈ l.take k ++ [x] ++ l.drop k) : y = x ∨ y ∈ l := by
  simp only [List.append_assoc, List.mem_append, List.mem_singleton] at h
  rcases h with h | h | h
  · exact .inr (List.mem_of_mem_take h)
  · exact .inl h
  · exact .inr (List.mem_of_mem_drop h)
theorem pair_ins {α : Type} {R : α → α → Prop} (sym : ∀ a b, R a b → R b a) {x : α} {l : List α} (k : Nat) (h : l.Pairwise R) (hx : ∀ y ∈ l, R x y) : (l.take k ++ [x] ++ l.drop k).Pairwise R := by
  have hl : (l.take k ++ l.drop k).Pairwise R := by rw [List.take_append_drop]; exact h
  rw [List.pairwise_append] at hl
  obtain ⟨h1, h2, h3⟩ := hl
  rw [List.append_assoc, List.pairwise_append]
  refine ⟨h1, ?_, fun a ha b hb => ?_⟩
  · rw [List.singleton_append, List.pairwise_cons]
    exact ⟨fun y hy => hx y (List.mem_of_mem_drop hy), h2⟩
  · rcases List.mem_append.mp hb with hb | hb
    · simp at hb; subst hb; exact sym _ _ (hx a (List.mem_of_mem_take ha))
    · exact h3 a ha b hb
theorem TOk.put {n one other : Nat} {T : List Tie} (o : TOk n one other T) (h1 : one < n) (h2 : other < one) {w : Int} (w1 : 1 ≤ w) (w2 : w ≤ 400) {t : Tie} (ht : t = ⟨one, other, w⟩ ∨ t = ⟨other, one, w⟩) (k : Nat) : TOk n one (other + 1) (T.take k ++ [t] ++ T.drop k) where
  ne := fun s hs => by
    rcases mem_ins hs with rfl | hs
    · rcases ht with e | e <;> subst e
      · exact Nat.ne_of_gt h2
      · exact Nat.ne_of_lt h2
    · exact o.ne s hs
  lt := fun s hs => by
    rcases mem_ins hs with rfl | hs
    · rcases ht with e | e <;> subst e
      · exact ⟨h1, Nat.lt_trans h2 h1⟩
      · exact ⟨Nat.lt_trans h2 h1, h1⟩
    · exact o.lt s hs
  wt := fun s hs => by
    rcases mem_ins hs with rfl | hs
    · rcases ht with e | e <;> subst e <;> exact ⟨w1, w2⟩
    · exact o.wt s hs
  be := fun s hs => by
    rcases mem_ins hs with rfl | hs
    · rcases ht with e | e <;> subst e
      · exact .inr (.inl ⟨rfl, Nat.lt_succ_self _⟩)
      · exact .inr (.inr ⟨rfl, Nat.lt_succ_self _⟩)
    · exact o.skip.be s hs
  un := pair_ins (fun _ _ => Unlike.symm) k o.un fun s hs => by
    have hb := o.be s hs
    rcases ht with e | e <;> subst e <;> rcases hb with hb | hb | hb
    · exact ⟨fun z => Nat.ne_of_gt hb.1 z.1, fun z => Nat.ne_of_gt hb.2 z.1⟩
    · exact ⟨fun z => Nat.ne_of_gt hb.2 z.2, fun z => Nat.ne_of_gt (Nat.lt_trans hb.2 h2) z.1⟩
    · exact ⟨fun z => Nat.ne_of_gt (Nat.lt_trans hb.2 h2) z.1, fun z => Nat.ne_of_gt hb.2 z.2⟩
    · exact ⟨fun z => Nat.ne_of_gt hb.2 z.2, fun z => Nat.ne_of_gt hb.1 z.2⟩
    · exact ⟨fun z => Nat.ne_of_gt (Nat.lt_trans hb.2 h2) z.2, fun z => Nat.ne_of_gt hb.2 z.1⟩
    · exact ⟨fun z => Nat.ne_of_gt hb.2 z.1, fun z => Nat.ne_of_gt (Nat.lt_trans hb.2 h2) z.2⟩
  len := by
    have e : (T.take k).length + (T.drop k).length = T.length := by rw [← List.length_append, List.take_append_drop]
    rw [List.length_append, List.length_append, List.length_singleton, Nat.add_right_comm, e]
    exact Nat.succ_le_succ o.len
theorem set_at {g : Hd} {k : Nat} {c : Cell} (cc : Cell) (h : g[k]? = some c) : (g.set k cc)[k]? = some cc := List.getElem?_set_self (List.getElem?_eq_some_iff.mp h).1
theorem ixN_nat {j n : Nat} (h : j < n) : ixN n (j : Int) = some j := by simp [ixN, h]
theorem few {l one n i : Nat} (h : l ≤ 30 * one + i) (h1 : one < n) (hn : n ≤ 30) (hi : i < one) : l < 1000 := by omega
end Fm
set_option linter.all false
namespace Fm
theorem pures_map {α : Type} {f : α → D} : ∀ {l : List α}, (∀ x ∈ l, pure? (f x) = true) → pures (l.map f) = true
  | [], _ => rfl
  | x :: l, h => by
    simp only [List.map_cons, pures, Bool.and_eq_true]
    exact ⟨h x (by simp), pures_map fun y hy => h y (by simp [hy])⟩
theorem pure_web (w : Web) : pure? w.enc = true := by
  have h1 : ∀ r : List (Nat × Int), pure? (encR r) = true := fun r => by
    unfold encR
    simp only [pure?]
    exact pures_map fun p _ => rfl
  have h2 : pures (w.ties.map encR) = true := pures_map fun r _ => h1 r
  have h3 : pures (w.bars.map D.int) = true := pures_map fun r _ => rfl
  have h4 : pures (w.stays.map encO) = true := pures_map fun r _ => by cases r <;> rfl
  unfold Web.enc
  simp only [pure?, pures, h2, h3, h4]
  rfl
noncomputable def toLN (p : Nat × Int) : List Int := [(p.1 : Int), p.2]
noncomputable def insN (x : Nat × Int) : List (Nat × Int) → List (Nat × Int)
  | [] => [x]
  | y :: r => if lexLt (toLN x) (toLN y) = true then x :: y :: r else y :: insN x r
noncomputable def sortN : List (Nat × Int) → List (Nat × Int)
  | [] => []
  | x :: r => insN x (sortN r)
theorem insN_toL (x : Nat × Int) : ∀ r, (insN x r).map toLN = insR (toLN x) (r.map toLN)
  | [] => rfl
  | y :: r => by
    simp only [insN, insR, List.map_cons]
    split
    · rfl
    · simp [insN_toL x r]
theorem sortN_toL : ∀ r, (sortN r).map toLN = sortRows (r.map toLN)
  | [] => rfl
  | x :: r => by simp only [sortN, sortRows, List.map_cons, insN_toL, sortN_toL r]
theorem mem_insN {x p : Nat × Int} : ∀ {r}, p ∈ insN x r ↔ p = x ∨ p ∈ r
  | [] => by simp [insN]
  | y :: r => by
    simp only [insN]
    split
    · simp
    · simp only [List.mem_cons, mem_insN (r := r)]
      constructor
      · rintro (h | h | h)
        · exact .inr (.inl h)
        · exact .inl h
        · exact .inr (.inr h)
      · rintro (h | h | h)
        · exact .inr (.inl h)
        · exact .inl h
        · exact .inr (.inr h)
theorem mem_sortN {p : Nat × Int} : ∀ {r}, p ∈ sortN r ↔ p ∈ r
  | [] => by simp [sortN]
  | x :: r => by simp only [sortN, mem_insN, mem_sortN (r := r), List.mem_cons]
theorem sum_insN (f : Nat × Int → Int) (x : Nat × Int) : ∀ r, ((insN x r).map f).sum = f x + (r.map f).sum
  | [] => by simp [insN]
  | y :: r => by
    simp only [insN]
    split
    · simp
    · simp [sum_insN f x r]; omega
theorem sum_sortN (f : Nat × Int → Int) : ∀ r, ((sortN r).map f).sum = (r.map f).sum
  | [] => rfl
  | x :: r => by simp [sortN, sum_insN, sum_sortN f r]
noncomputable def nbs (T : List Tie) (i : Nat) : List (Nat × Int) := T.filterMap fun t => (far i t).map fun j => (j, t.w)
noncomputable def encE (p : Nat × Int) : Int × D := ((p.1 : Int), .int p.2)
theorem nbs_snoc (T : List Tie) (t : Tie) (i : Nat) : nbs (T ++ [t]) i = nbs T i ++ (match far i t with | some j => [(j, t.w)] | none => []) := by
  unfold nbs
  rw [List.filterMap_append]
  congr 1
  cases e : far i t <;> simp [e]
theorem dval_none {l : List (Nat × Int)} {k : Nat} (h : ∀ p ∈ l, p.1 ≠ k) : dval (l.map encE) k = none := by
  unfold dval
  rw [List.find?_eq_none.mpr]
  · rfl
  · intro x hx
    obtain ⟨p, hp, rfl⟩ := List.mem_map.mp hx
    have hne := h p hp
    have : ¬ ((p.1 : Int) = (k : Int)) := fun z => hne (by omega)
    show ¬ (decide ((p.1 : Int) = (k : Int)) = true)
    rw [decide_eq_true_eq]
    exact this
theorem dput_new {l : List (Nat × Int)} {k : Nat} {v : Int} (h : ∀ p ∈ l, p.1 ≠ k) : dput (l.map encE) k (.int v) = (l ++ [(k, v)]).map encE := by
  unfold dput
  rw [if_neg]
  · simp [encE]
  · simp only [List.any_eq_true, List.mem_map, decide_eq_true_eq]
    rintro ⟨x, ⟨p, hp, rfl⟩, e⟩
    have hne := h p hp
    have e : (p.1 : Int) = (k : Int) := e
    exact hne (by omega)
theorem far_some {i j : Nat} {t : Tie} (h : far i t = some j) : (t.a = i ∧ t.b = j) ∨ (t.b = i ∧ t.a = j) := by
  unfold far at h
  by_cases a : t.a = i
  · rw [if_pos a] at h; exact .inl ⟨a, Option.some.inj h⟩
  · rw [if_neg a] at h
    by_cases b : t.b = i
    · rw [if_pos b] at h; exact .inr ⟨b, Option.some.inj h⟩
    · rw [if_neg b] at h; cases h
theorem nbs_ne {T : List Tie} {t : Tie} {i j : Nat} (hf : far i t = some j) (un : ∀ s ∈ T, Unlike s t) : ∀ p ∈ nbs T i, p.1 ≠ j := fun p hp e => by
  obtain ⟨s, hs, q⟩ := List.mem_filterMap.mp hp
  obtain ⟨k, hk, rfl⟩ := Option.map_eq_some_iff.mp q
  have u := un s hs
  rw [show k = j from e] at hk
  rcases far_some hf with ⟨a1, a2⟩ | ⟨a1, a2⟩ <;> rcases far_some hk with ⟨b1, b2⟩ | ⟨b1, b2⟩
  · exact u.1 ⟨b1.trans a1.symm, b2.trans a2.symm⟩
  · exact u.2 ⟨b2.trans a2.symm, b1.trans a1.symm⟩
  · exact u.2 ⟨b1.trans a1.symm, b2.trans a2.symm⟩
  · exact u.1 ⟨b2.trans a2.symm, b1.trans a1.symm⟩
theorem is_tie_ok {n : Nat} {t : Tie} (h1 : t.a ≠ t.b) (h2 : t.a < n) (h3 : t.b < n) (h4 : 1 ≤ t.w ∧ t.w ≤ 400) (h : Hd) : F_is_tie [.int n, encT t] h = .ok (.bl true) h := by
  have e1 : (t.a : Int) ≤ n - 1 := Int.le_sub_one_of_lt (Int.ofNat_lt.mpr h2)
  have e2 : (t.b : Int) ≤ n - 1 := Int.le_sub_one_of_lt (Int.ofNat_lt.mpr h3)
  have e3 : ¬ (t.a : Int) = t.b := fun z => h1 (Int.ofNat.inj z)
  have bt : ∀ {i a b : Int}, a ≤ i → i ≤ b → F_is_between [.int i, .int a, .int b] h = .ok (.bl true) h := fun x y => by rw [is_between_int, decide_eq_true x, decide_eq_true y]; rfl
  have s1 : sIf (tOr (tNot (tE (fIsTy .tuple (fVar 1)))) (tE (fBin oNe (fLen (lOf (fVar 1))) (fC (.int 3))))) (sRet (fC (.bl false))) sNil [some (.int n), some (encT t), none, none] h = .nx [some (.int n), some (encT t), none, none] h := ev_f (ev_or (ev_not (b := true) (ev_b rfl)) (ev_b (ev_bin (ev_len (ev_lof rfl rfl)) rfl rfl)))
  have s4 : sIf (tOr (tNot (tE (fCall F_is_between (aCons (fVar 2) (aCons (fC (.int 0)) (aCons (fBin oSub (fVar 0) (fC (.int 1))) aNil)))))) (tNot (tE (fCall F_is_between (aCons (fVar 3) (aCons (fC (.int 0)) (aCons (fBin oSub (fVar 0) (fC (.int 1))) aNil))))))) (sRet (fC (.bl false))) sNil [some (.int n), some (encT t), some (.int t.a), some (.int t.b)] h = .nx [some (.int n), some (encT t), some (.int t.a), some (.int t.b)] h := ev_f (ev_or (ev_not (b := true) (ev_b (ev_call (ev_cons rfl (ev_cons rfl (ev_cons (ev_bin rfl rfl rfl) rfl))) (bt (Int.natCast_nonneg _) e1)))) (ev_not (b := true) (ev_b (ev_call (ev_cons rfl (ev_cons rfl (ev_cons (ev_bin rfl rfl rfl) rfl))) (bt (Int.natCast_nonneg _) e2)))))
  have s5 : sRet (fT (tAnd (tE (fBin oNe (fVar 2) (fVar 3))) (tE (fCall F_is_between (aCons (fAt (fVar 1) (fC (.int 2))) (aCons (fC (.int 1)) (aCons (fC (.int 400)) aNil))))))) [some (.int n), some (encT t), some (.int t.a), some (.int t.b)] h = .rt (.bl true) h := ev_ret (ev_fT (ev_and (ev_b (ev_bin rfl rfl (by rw [oNe_ii, decide_eq_false e3]; rfl))) (ev_b (ev_call (ev_cons (ev_at rfl rfl rfl rfl) (ev_2 rfl rfl)) (bt h4.1 h4.2)))))
  exact (fn_rt rfl rfl ((sq_nx s1).trans ((sq_nx (ev_set (ev_at rfl rfl rfl rfl))).trans ((sq_nx (ev_set (ev_at rfl rfl rfl rfl))).trans ((sq_nx s4).trans s5))))).trans letGo_self
structure NH (n A : Nat) (h0 : Hd) (T : List Tie) (h : Hd) : Prop where
  pre : ∃ g, h = h0 ++ g ∧ g.length = n + 1
  dc : ∀ j, j < n → h[A + j]? = some (.dct ((nbs T j).map encE))
  rf : h[A + n]? = some (.lst ((List.range n).map fun i => .ref (A + i)))
theorem NH.put {n A : Nat} {h0 : Hd} {T : List Tie} {h : Hd} (hA : A = h0.length) (N : NH n A h0 T h) {j : Nat} (hj : j < n) (c : Cell) : (∃ g, h.set (A + j) c = h0 ++ g ∧ g.length = n + 1) ∧ (h.set (A + j) c)[A + j]? = some c ∧ (∀ k, k ≠ j → (h.set (A + j) c)[A + k]? = h[A + k]?) := by
  obtain ⟨g, e, l⟩ := N.pre
  have lt := (List.getElem?_eq_some_iff.mp (N.dc j hj)).1
  exact ⟨⟨g.set j c, by rw [e, set_pre hA], by rw [List.length_set]; exact l⟩, List.getElem?_set_self lt, fun k hk => List.getElem?_set_ne fun z => hk (Nat.add_left_cancel z).symm⟩
noncomputable def SNx (a b : SF) : Prop := ∀ {σ h σ' h'}, a σ h = .nx σ' h' → b σ h = .nx σ' h'
theorem SNx.refl {a : SF} : SNx a a := fun e => e
theorem sz_nbs {n i j : Nat} {T : List Tie} (hn : n ≤ 30) (O : TOk n n 0 T) : ((nbs (T.take i) j).map encE).length < SZ := by
  rw [List.length_map]
  exact Nat.lt_of_le_of_lt (Nat.le_trans (List.length_filterMap_le _ _) (Nat.le_trans (List.length_take_le' _ _) (Nat.le_trans O.len (Nat.add_le_add_right (Nat.mul_le_mul_left 30 hn) 0)))) (by decide)
noncomputable abbrev XN (n tk A : Nat) (a b c : Option D) : Sd := [some (.int n), some (.ref tk), some (.ref (A + n)), a, b, c]
theorem nb_step {n A tk i : Nat} (hn : n ≤ 30) {T : List Tie} (O : TOk n n 0 T) {h h0 : Hd} (hA : A = h.length) (N : NH n A h (T.take i) h0) {t : Tie} (mt : t ∈ T) (un : ∀ s ∈ T.take i, Unlike s t) (tk1 : T.take (i + 1) = T.take i ++ [t]) (b c : Option D) :
    ∃ h6, B0_neighbours (XN n tk A (some (encT t)) b c) h0 = .nx (XN n tk A (some (encT t)) (some (.int t.a)) (some (.int t.b))) h6 ∧ NH n A h (T.take (i + 1)) h6 := by
  have tne := O.ne t mt
  have tlt := O.lt t mt
  have fa : far t.a t = some t.b := if_pos rfl
  have fb : far t.b t = some t.a := (if_neg tne).trans (if_pos rfl)
  have na := nbs_ne fa un
  have nb := nbs_ne fb un
  have rat : ∀ j : Nat, j < n → atI ((List.range n).map fun i => D.ref (A + i)) (j : Int) = some (.ref (A + j)) := fun j hj => atI_nat (by rw [List.getElem?_map, List.getElem?_range hj]; rfl)
  have ra := rat t.a tlt.1
  have rb := rat t.b tlt.2
  have da := N.dc t.a tlt.1
  obtain ⟨p1, p2, p3⟩ := N.put hA tlt.1 (.dct ((nbs (T.take i) t.a ++ [(t.b, t.w)]).map encE))
  obtain ⟨h5, hh5⟩ : ∃ h5, h5 = h0.set (A + t.a) (.dct ((nbs (T.take i) t.a ++ [(t.b, t.w)]).map encE)) := ⟨_, rfl⟩
  rw [← hh5] at p1 p2 p3
  have rf5 : h5[A + n]? = some (.lst ((List.range n).map fun i => .ref (A + i))) := (p3 n (Nat.ne_of_gt tlt.1)).trans N.rf
  have db : h5[A + t.b]? = some (.dct ((nbs (T.take i) t.b).map encE)) := (p3 t.b (Ne.symm tne)).trans (N.dc t.b tlt.2)
  obtain ⟨h6, hh6⟩ : ∃ h6, h6 = h5.set (A + t.b) (.dct ((nbs (T.take i) t.b ++ [(t.a, t.w)]).map encE)) := ⟨_, rfl⟩
  have s4 : sIf (tE (fBin oInD (fVar 5) (fAt (fVar 2) (fVar 4)))) sBad sNil (XN n tk A (some (encT t)) (some (.int t.a)) (some (.int t.b))) h0 = .nx (XN n tk A (some (encT t)) (some (.int t.a)) (some (.int t.b))) h0 := by
    refine ev_f (ev_b (ev_bin rfl (ev_at rfl rfl (ev_seq N.rf) ra) ?_))
    rw [ev_inD da, dval_none na]; rfl
  have s5 : sPutD (fAt (fVar 2) (fVar 4)) (fVar 5) (fAt (fVar 3) (fC (.int 2))) (XN n tk A (some (encT t)) (some (.int t.a)) (some (.int t.b))) h0 = .nx (XN n tk A (some (encT t)) (some (.int t.a)) (some (.int t.b))) h5 := by
    rw [hh5, ← dput_new na]
    exact ev_putD (ev_at rfl rfl rfl rfl) (ev_at rfl rfl (ev_seq N.rf) ra) rfl da (sz_nbs hn O)
  have s6 : sPutD (fAt (fVar 2) (fVar 5)) (fVar 4) (fAt (fVar 3) (fC (.int 2))) (XN n tk A (some (encT t)) (some (.int t.a)) (some (.int t.b))) h5 = .nx (XN n tk A (some (encT t)) (some (.int t.a)) (some (.int t.b))) h6 := by
    rw [hh6, ← dput_new nb]
    exact ev_putD (ev_at rfl rfl rfl rfl) (ev_at rfl rfl (ev_seq rf5) rb) rfl db (sz_nbs hn O)
  refine ⟨h6, (seq_nx' (ev_f (ev_not (ev_b (ev_call (ev_2 rfl rfl) (is_tie_ok tne tlt.1 tlt.2 (O.wt t mt) h0)))))).trans ((seq_nx' (ev_set (ev_at rfl rfl rfl rfl))).trans ((seq_nx' (ev_set (ev_at rfl rfl rfl rfl))).trans ((seq_nx' s4).trans ((seq_nx' s5).trans s6)))), ?_, fun j hj => ?_, ?_⟩
  · obtain ⟨g, e, l⟩ := p1
    exact ⟨_, by rw [hh6, e, set_pre hA], by rw [List.length_set]; exact l⟩
  · rw [tk1, nbs_snoc]
    by_cases e1 : t.b = j
    · subst e1
      rw [hh6, set_at _ db, fb]
    · rw [hh6, List.getElem?_set_ne (fun z => e1 (Nat.add_left_cancel z))]
      by_cases e2 : t.a = j
      · subst e2
        rw [p2, fa]
      · have : far j t = none := (if_neg e2).trans (if_neg e1)
        rw [p3 j (Ne.symm e2), this, N.dc j hj]
        simp only [List.append_nil]
  · rw [hh6]; exact (List.getElem?_set_ne (fun z => Nat.ne_of_lt tlt.2 (Nat.add_left_cancel z))).trans rf5
theorem new_dicts {n : Nat} {h : Hd} {A : Nat} (hA : A = h.length) : ∃ h1 g, compL none ((List.range n).map fun k : Nat => D.int k) (gN 0) [] fDNew ((List.range n).map fun k : Nat => D.int k) [none] h = .ok ((List.range n).map fun i => .ref (A + i)) h1 ∧ h1 = h ++ g ∧ g.length = n ∧ ∀ j, j < n → h1[A + j]? = some (.dct []) := by
  obtain ⟨ds, h1, k1, l1, v1, σ1, -, g, hg, lg, g1⟩ := compL_next (g := none) (all := (List.range n).map fun k : Nat => D.int k) (tg := gN 0) (xs := (List.range n).map fun k : Nat => D.int k) (k := 0)
    (e := fDNew) (σ := [none]) (h := h)
    (P := fun i σ h' => (∃ a, σ = [a]) ∧ ∃ g, h' = h ++ g ∧ g.length = i ∧ ∀ j, j < i → h'[A + j]? = some (.dct [])) (V := fun i d => d = .ref (A + i)) (fun _ _ _ _ => trivial) (by
      rintro i x σ h0 hx ⟨⟨a, rfl⟩, g, e0, lg, e1⟩
      obtain ⟨hi, rfl⟩ := range_at' hx
      rw [Nat.zero_add] at lg e1 ⊢
      have hl : h0.length = A + i := by rw [e0, List.length_append, lg, hA]
      refine ⟨_, rfl, .ref h0.length, h0 ++ [.dct []], rfl, by rw [hl], ⟨_, rfl⟩, g ++ [.dct []], by rw [e0, List.append_assoc], by rw [List.length_append, lg]; rfl, fun j hj => ?_⟩
      by_cases hji : j < i
      · exact app_at _ (e1 j hji)
      · rw [Nat.le_antisymm (Nat.le_of_lt_succ hj) (Nat.not_lt.mp hji), ← hl]; exact List.getElem?_concat_length) ⟨⟨_, rfl⟩, [], (List.append_nil _).symm, rfl, fun j hj => absurd hj (Nat.not_lt_zero _)⟩
  rw [List.length_map, List.length_range] at l1
  rw [Nat.zero_add, List.length_map, List.length_range] at lg g1
  have e1 : ds = (List.range n).map fun i => .ref (A + i) := list_of_at l1 fun i d hd => by have := v1 i d hd; rwa [Nat.zero_add] at this
  exact ⟨h1, g, by rw [k1, e1], hg, lg, g1⟩
inductive NI (n A tk : Nat) (h : Hd) (T : List Tie) : Nat → Sd → Hd → Prop
  | mk {i : Nat} {h' : Hd} {a b c : Option D} (N : NH n A h (T.take i) h') : NI n A tk h T i (XN n tk A a b c) h'
theorem nb_pre {n : Nat} (hn1 : 1 ≤ n) (hn : n ≤ 30) {T : List Tie} (O : TOk n n 0 T) {B : SF} (hB : SNx B0_neighbours B) {rest : List D} {h : Hd} {tk : Nat} (ht : h[tk]? = some (.lst (T.map encT ++ rest))) :
    ∃ h2 h3 a3 b3 c3, sSet (gN 2) (fNew (lComp 1 [] (iRange (fVar 0)) (gN 0) [] fDNew)) [some (.int n), some (.ref tk), none, none, none, none] h = .nx [some (.int n), some (.ref tk), some (.ref (h.length + n)), none, none, none] h2 ∧ h2[tk]? = some (.lst (T.map encT ++ rest)) ∧
      forL (some tk) (T.map encT ++ rest) (gN 3) B (T.map encT ++ rest) [some (.int n), some (.ref tk), some (.ref (h.length + n)), none, none, none] h2 = forL (some tk) (T.map encT ++ rest) (gN 3) B rest [some (.int n), some (.ref tk), some (.ref (h.length + n)), a3, b3, c3] h3 ∧
      h3[tk]? = some (.lst (T.map encT ++ rest)) ∧ NH n h.length h T h3 := by
  obtain ⟨A, hA⟩ : ∃ A, A = h.length := ⟨_, rfl⟩
  obtain ⟨h1, g, k1, hg, lg, g1⟩ := new_dicts (n := n) hA
  obtain ⟨h2, hh2⟩ : ∃ h2, h2 = h1 ++ [.lst ((List.range n).map fun i => .ref (A + i))] := ⟨_, rfl⟩
  have l1' : h1.length = A + n := by rw [hg, List.length_append, lg, hA]
  have N0 : NH n A h [] h2 := ⟨⟨g ++ [.lst ((List.range n).map fun i => .ref (A + i))], by rw [hh2, hg, List.append_assoc], by rw [List.length_append, lg]; rfl⟩, fun j hj => by rw [hh2]; exact app_at _ (g1 j hj), by rw [hh2, ← l1']; exact List.getElem?_concat_length⟩
  obtain ⟨_, h3, k3, @⟨_, a3, b3, c3, N3⟩⟩ := forL_more (rest := rest) (P := NI n A tk h T) (g := some tk) (k := 0)
      (all := T.map encT ++ rest) (fun _ _ h' q => by
        obtain ⟨N⟩ := q
        obtain ⟨g, e, _⟩ := N.pre
        show h'[tk]? = _
        rw [e]; exact app_at _ ht)
      (xs := T.map encT) (tg := gN 3) (σ := XN n tk A none none none) (h := h2) (b := B) (by
      intro i x σ h0 hx z
      rw [Nat.zero_add] at z ⊢
      obtain @⟨_, a, b, c, N⟩ := z
      have hiT : i < T.length := by have := (List.getElem?_eq_some_iff.mp hx).1; rwa [List.length_map] at this
      rw [List.getElem?_map, List.getElem?_eq_getElem hiT] at hx
      cases hx
      have mt : T[i] ∈ T := List.getElem_mem hiT
      have un : ∀ s ∈ T.take i, Unlike s T[i] := fun s hs => by
        obtain ⟨k, hk, rfl⟩ := List.getElem_of_mem hs
        rw [List.length_take] at hk
        rw [List.getElem_take]
        exact List.pairwise_iff_getElem.mp O.un k i _ hiT (Nat.lt_of_lt_of_le hk (Nat.min_le_left _ _))
      obtain ⟨h6, q6, N6⟩ := nb_step (tk := tk) hn O hA N mt un (List.take_succ_eq_append_getElem hiT) b c
      exact ⟨_, rfl, _, h6, hB q6, .mk N6⟩) (.mk N0)
  rw [Nat.zero_add, List.length_map, List.take_length] at N3
  have s2 : sSet (gN 2) (fNew (lComp 1 [] (iRange (fVar 0)) (gN 0) [] fDNew)) [some (.int n), some (.ref tk), none, none, none, none] h = .nx [some (.int n), some (.ref tk), some (.ref (A + n)), none, none, none] h2 := by
    rw [hh2, ← l1']
    exact ev_set (ev_new (ev_comp (ev_range rfl (le30 hn)) k1) (by rw [List.length_map, List.length_range]; exact le30 hn))
  have t2 : h2[tk]? = some (.lst (T.map encT ++ rest)) := by rw [hh2, hg]; exact app_at _ (app_at _ ht)
  obtain ⟨g3, e3, _⟩ := N3.pre
  refine ⟨h2, h3, a3, b3, c3, by rw [← hA]; exact s2, t2, by rw [← hA]; exact k3, ?_, by rw [← hA]; exact N3⟩
  rw [e3]; exact app_at _ ht
theorem neighbours_ok {n : Nat} (hn1 : 1 ≤ n) (hn : n ≤ 30) {T : List Tie} (O : TOk n n 0 T) {h : Hd} {tk : Nat} (ht : h[tk]? = some (.lst (T.map encT))) :
    ∃ h', F_neighbours [.int n, .ref tk] h = .ok (.ref (h.length + n)) h' ∧ NH n h.length h T h' := by
  obtain ⟨h2, h3, a3, b3, c3, s2, t2, k3, t3, N3⟩ := nb_pre hn1 hn O (B := B0_neighbours) SNx.refl (rest := []) (h := h) (tk := tk) (by rw [List.append_nil]; exact ht)
  rw [List.append_nil] at t2 t3 k3
  refine ⟨h3, ?_, N3⟩
  have s1 : sIf (tNot (tE (fIsTy .list (fVar 1)))) sBad sNil [some (.int n), some (.ref tk), none, none, none, none] h = .nx [some (.int n), some (.ref tk), none, none, none, none] h := ev_f (ev_not (ev_b (ev_isL rfl ht)))
  have s3 : sFor (iSeq (fVar 1)) (gN 3) B0_neighbours [some (.int n), some (.ref tk), some (.ref (h.length + n)), none, none, none] h2 = .nx [some (.int n), some (.ref tk), some (.ref (h.length + n)), a3, b3, c3] h3 := by
    have e : forL (some tk) (T.map encT) (gN 3) B0_neighbours [] [some (.int n), some (.ref tk), some (.ref (h.length + n)), a3, b3, c3] h3 = .nx [some (.int n), some (.ref tk), some (.ref (h.length + n)), a3, b3, c3] h3 := by
      unfold forL
      exact if_pos t3
    rw [e] at k3
    exact ev_for (ev_iseq rfl t2) k3
  have st : ([D.int n, D.ref tk].map some ++ List.replicate (6 - [D.int n, D.ref tk].length) none : Sd) = [some (.int n), some (.ref tk), none, none, none, none] := rfl
  unfold F_neighbours mkFn runB
  rw [if_pos (show [D.int n, D.ref tk].length = 2 from rfl), st, seq_nx' s1, seq_nx' s2, seq_nx' s3]
  simp [letGo, pure?]
end Fm
set_option linter.all false
namespace Fm
theorem oNeI (a b : Int) (h : Hd) : oNe (.int a) (.int b) h = .ok (.bl (!decide (a = b))) h := rfl
theorem nd_len {l : List Nat} {n : Nat} (nd : l.Nodup) (h : ∀ x ∈ l, x < n) : l.length ≤ n := by
  induction n generalizing l with
  | zero => match l, h with
    | [], _ => exact Nat.le_refl _
    | x :: _, h => exact absurd (h x List.mem_cons_self) (Nat.not_lt_zero _)
  | succ n ih =>
    by_cases m : n ∈ l
    · have := ih (nd.erase n) fun x hx => by
        have z := (List.Nodup.mem_erase_iff nd).mp hx
        exact Nat.lt_of_le_of_ne (Nat.le_of_lt_succ (h x z.2)) z.1
      rw [List.length_erase_of_mem m] at this
      exact Nat.le_add_of_sub_le this
    · exact Nat.le_succ_of_le (ih nd fun x hx => Nat.lt_of_le_of_ne (Nat.le_of_lt_succ (h x hx)) fun z => m (z ▸ hx))
noncomputable def webOf (n : Nat) (T : List Tie) (bs : List Int) (ss : List (Option Int)) : Web := ⟨(List.range n).map fun i => sortN (nbs T i), bs, ss⟩
theorem itemRows_nbs : ∀ l : List (Nat × Int), itemRows (l.map encE) = some (l.map toLN)
  | [] => rfl
  | p :: l => by
    have ih := itemRows_nbs l
    simp only [List.map_cons]
    show (itemRows (l.map encE)).map _ = _
    rw [ih]
    rfl
theorem nbs_nd {T : List Tie} (un : T.Pairwise Unlike) (i : Nat) : ((nbs T i).map (·.1)).Nodup := by
  unfold nbs
  induction T with
  | nil => simp
  | cons t T ih =>
    obtain ⟨h1, h2⟩ := List.pairwise_cons.mp un
    have ih := ih h2
    cases e : far i t with
    | none => simp only [List.filterMap_cons, e, Option.map_none]; exact ih
    | some j =>
      simp only [List.filterMap_cons, e, Option.map_some, List.map_cons, List.nodup_cons]
      refine ⟨fun z => ?_, ih⟩
      obtain ⟨p, hp, hpj⟩ := List.mem_map.mp z
      exact nbs_ne (T := T) e (fun s hs => (h1 s hs).symm) p hp hpj
theorem toLN_nd {l : List (Nat × Int)} (nd : (l.map (·.1)).Nodup) : (l.map toLN).Nodup := by
  rw [List.nodup_iff_pairwise_ne, List.pairwise_map] at nd ⊢
  exact nd.imp fun {a b} h e => h (by have := (List.cons.inj e).1; omega)
theorem bools_map {α : Type} {l : List α} : bools (l.map fun _ => D.bl true) = some (l.map fun _ => true) := by
  induction l with
  | nil => rfl
  | cons x l ih => simp [bools, ih]
theorem bars_told_ok {n : Nat} {h : Hd} {nk bk : Nat} {l : List D} {bs : List Int} (hn : h[nk]? = some (.lst l)) (hl : l.length = n) (hb : h[bk]? = some (.lst (bs.map .int))) (lb : bs.length = n) : F_bars_told [.ref nk, .ref bk] h = .ok (.tup (bs.map .int)) h := by
  have c : compL (some bk) (bs.map D.int) (gN 0) [] (fCall F_is_whole (aCons (fVar 0) aNil)) (bs.map D.int) [none] h = .ok ((bs.map D.int).map fun _ => D.bl true) h := by
    have := compL_pure (g := some bk) (all := bs.map D.int) (tg := gN 0) (cs := []) (e := fCall F_is_whole (aCons (fVar 0) aNil)) (h := h) (I := fun σ => ∃ a, σ = [a]) (fun _ => true) (fun _ => .bl true) hb (xs := bs.map D.int) (σ := [none]) (by
      rintro x hx σ ⟨a, rfl⟩
      obtain ⟨i, _, rfl⟩ := List.mem_map.mp hx
      exact ⟨_, rfl, ⟨_, rfl⟩, rfl, fun _ => ev_call (ev_cons rfl rfl) (is_whole_int _ _)⟩) ⟨_, rfl⟩
    rw [this, List.filter_eq_self.mpr (by simp)]
  have al : ((bs.map D.int).map fun _ => true).all id = true := by simp
  have lg := letGo_pure (h := h) (g := []) (d := .tup (bs.map D.int)) (by simp only [pure?]; exact pures_map fun _ _ => rfl)
  rw [List.append_nil] at lg
  have s1 : sIf (tE (fBin oIsN (fVar 1) (fC .non))) sBad sNil [some (.ref nk), some (.ref bk)] h = .nx [some (.ref nk), some (.ref bk)] h := ev_f (ev_b (ev_bin rfl rfl rfl))
  have s2 : sIf (tOr (tNot (tE (fIsTy .list (fVar 1)))) (tE (fBin oNe (fLen (lOf (fVar 1))) (fLen (lOf (fVar 0)))))) sBad sNil [some (.ref nk), some (.ref bk)] h = .nx [some (.ref nk), some (.ref bk)] h := by
    exact ev_f (ev_or (ev_not (b := true) (ev_b (ev_isL rfl hb))) (ev_b (ev_bin (ev_len (ev_lof rfl (ev_seq hb))) (ev_len (ev_lof rfl (ev_seq hn))) (by rw [oNeI, List.length_map, lb, hl, decide_eq_true rfl]; rfl))))
  have s3 : sIf (tNot (tE (fAll (lComp 1 [] (iSeq (fVar 1)) (gN 0) [] (fCall F_is_whole (aCons (fVar 0) aNil)))))) sBad sNil [some (.ref nk), some (.ref bk)] h = .nx [some (.ref nk), some (.ref bk)] h := by
    exact ev_f (ev_not (b := true) (ev_b ((ev_all (ev_comp (ev_iseq rfl hb) c) bools_map).trans (by rw [al]))))
  have s4 : sRet (fTupL (lOf (fVar 1))) [some (.ref nk), some (.ref bk)] h = .rt (.tup (bs.map .int)) h := ev_ret (ev_tupL (ev_lof rfl (ev_seq hb)))
  have st : ([D.ref nk, D.ref bk].map some ++ List.replicate (2 - [D.ref nk, D.ref bk].length) none : Sd) = [some (.ref nk), some (.ref bk)] := rfl
  unfold F_bars_told mkFn runB
  rw [if_pos (show [D.ref nk, D.ref bk].length = 2 from rfl), st, seq_nx' s1, seq_nx' s2, seq_nx' s3, s4]
  exact lg
theorem stays_told_ok {n : Nat} {h : Hd} {sk : Nat} {ss : List (Option Int)} (hs : h[sk]? = some (.lst (ss.map encO))) (ls : ss.length = n) (os : ∀ x ∈ ss, x = none ∨ x = some 0 ∨ x = some 1) : F_stays_told [.int n, .ref sk] h = .ok (.tup (ss.map encO)) h := by
  have c : compL (some sk) (ss.map encO) (gN 0) [] (fT (tOr (tE (fBin oIsN (fVar 0) (fC .non))) (tE (fCall F_is_opinion (aCons (fVar 0) aNil))))) (ss.map encO) [none] h = .ok ((ss.map encO).map fun _ => D.bl true) h := by
    have := compL_pure (g := some sk) (all := ss.map encO) (tg := gN 0) (cs := []) (e := fT (tOr (tE (fBin oIsN (fVar 0) (fC .non))) (tE (fCall F_is_opinion (aCons (fVar 0) aNil))))) (h := h) (I := fun σ => ∃ a, σ = [a]) (fun _ => true) (fun _ => .bl true) hs (xs := ss.map encO) (σ := [none]) (by
      rintro x hx σ ⟨a, rfl⟩
      obtain ⟨i, hi, rfl⟩ := List.mem_map.mp hx
      refine ⟨_, rfl, ⟨_, rfl⟩, rfl, fun _ => ?_⟩
      rcases os i hi with e | e | e <;> subst e
      · exact ev_fT (ev_ort (ev_b (ev_bin rfl rfl rfl)))
      · exact ev_fT (ev_or (ev_b (ev_bin rfl rfl rfl)) (ev_b (ev_call (ev_cons rfl rfl) (is_opinion_int 0 h))))
      · exact ev_fT (ev_or (ev_b (ev_bin rfl rfl rfl)) (ev_b (ev_call (ev_cons rfl rfl) (is_opinion_int 1 h))))) ⟨_, rfl⟩
    rw [this, List.filter_eq_self.mpr (by simp)]
  have lg := letGo_pure (h := h) (g := []) (d := .tup (ss.map encO)) (by simp only [pure?]; exact pures_map fun x _ => by cases x <;> rfl)
  rw [List.append_nil] at lg
  have s1 : sIf (tE (fBin oIsN (fVar 1) (fC .non))) (sRet (fTupL (lComp 1 [] (iRange (fVar 0)) (gN 0) [] (fC .non)))) sNil [some (.int n), some (.ref sk)] h = .nx [some (.int n), some (.ref sk)] h := ev_f (ev_b (ev_bin rfl rfl rfl))
  have s2 : sIf (tOr (tNot (tE (fIsTy .list (fVar 1)))) (tE (fBin oNe (fLen (lOf (fVar 1))) (fVar 0)))) sBad sNil [some (.int n), some (.ref sk)] h = .nx [some (.int n), some (.ref sk)] h := by
    exact ev_f (ev_or (ev_not (b := true) (ev_b (ev_isL rfl hs))) (ev_b (ev_bin (ev_len (ev_lof rfl (ev_seq hs))) rfl (by rw [oNeI, List.length_map, ls, decide_eq_true rfl]; rfl))))
  have s3 : sIf (tNot (tE (fAll (lComp 1 [] (iSeq (fVar 1)) (gN 0) [] (fT (tOr (tE (fBin oIsN (fVar 0) (fC .non))) (tE (fCall F_is_opinion (aCons (fVar 0) aNil))))))))) sBad sNil [some (.int n), some (.ref sk)] h = .nx [some (.int n), some (.ref sk)] h := by
    have al : ((ss.map encO).map fun _ => true).all id = true := by simp
    exact ev_f (ev_not (b := true) (ev_b ((ev_all (ev_comp (ev_iseq rfl hs) c) bools_map).trans (by rw [al]))))
  have s4 : sRet (fTupL (lOf (fVar 1))) [some (.int n), some (.ref sk)] h = .rt (.tup (ss.map encO)) h := ev_ret (ev_tupL (ev_lof rfl (ev_seq hs)))
  have st : ([D.int n, D.ref sk].map some ++ List.replicate (2 - [D.int n, D.ref sk].length) none : Sd) = [some (.int n), some (.ref sk)] := rfl
  unfold F_stays_told mkFn runB
  rw [if_pos (show [D.int n, D.ref sk].length = 2 from rfl), st, seq_nx' s1, seq_nx' s2, seq_nx' s3, s4]
  exact lg
theorem rows_ok {n A : Nat} (hn : n ≤ 30) {T : List Tie} (O : TOk n n 0 T) {h h1 : Hd} (N : NH n A h T h1) :
    compL (some (A + n)) ((List.range n).map fun i => .ref (A + i)) (gN 0) [] (fTupL (lSortI (fVar 0))) ((List.range n).map fun i => .ref (A + i)) [none] h1 = .ok (((List.range n).map fun i => sortN (nbs T i)).map encR) h1 := by
  have := compL_pure (g := some (A + n)) (all := (List.range n).map fun i => .ref (A + i)) (tg := gN 0) (cs := []) (e := fTupL (lSortI (fVar 0))) (h := h1) (I := fun σ => ∃ a, σ = [a]) (fun _ => true)
    (fun d => match d with | .ref k => encR (sortN (nbs T (k - A))) | _ => .non) N.rf (xs := (List.range n).map fun i => .ref (A + i)) (σ := [none]) (by
      rintro x hx σ ⟨a, rfl⟩
      obtain ⟨i, hi, rfl⟩ := List.mem_map.mp hx
      have hi := List.mem_range.mp hi
      refine ⟨_, rfl, ⟨_, rfl⟩, rfl, fun _ => ?_⟩
      have nd := nbs_nd O.un i
      have l64 : ((nbs T i).map toLN).length < 64 := by
        have lt : ∀ p ∈ nbs T i, p.1 < n := fun p hp => by
          unfold nbs at hp
          obtain ⟨t, ht', q⟩ := List.mem_filterMap.mp hp
          have := O.lt t ht'
          unfold far at q
          by_cases a1 : t.a = i
          · rw [if_pos a1] at q; simp at q; subst q; exact this.2
          · rw [if_neg a1] at q
            by_cases a2 : t.b = i
            · rw [if_pos a2] at q; simp at q; subst q; exact this.1
            · rw [if_neg a2] at q; cases q
        have := nd_len nd (n := n) (fun x hx => by
          obtain ⟨p, hp, rfl⟩ := List.mem_map.mp hx
          exact lt p hp)
        simp at this ⊢
        omega
      have e : ((sortRows ((nbs T i).map toLN)).map encRow) = (sortN (nbs T i)).map encP := by rw [← sortN_toL, List.map_map]; rfl
      simp only [List.set_cons_zero, fTupL, lSortI, fVar, slot, List.getElem?_cons_zero, bind_ok, N.dc i hi, itemRows_nbs, if_pos (And.intro l64 (toLN_nd nd)), e, encR, Nat.add_sub_cancel_left]) ⟨_, rfl⟩
  rw [this, List.filter_eq_self.mpr (by simp), List.map_map, List.map_map]
  congr 1
  apply List.map_congr_left
  intro i _
  simp
theorem web_of_ok {n : Nat} (hn1 : 1 ≤ n) (hn : n ≤ 30) {T : List Tie} (O : TOk n n 0 T) {bs : List Int} {ss : List (Option Int)} (lb : bs.length = n) (ls : ss.length = n) (os : ∀ x ∈ ss, x = none ∨ x = some 0 ∨ x = some 1) {h : Hd} {tk bk sk : Nat}
    (ht : h[tk]? = some (.lst (T.map encT))) (hb : h[bk]? = some (.lst (bs.map .int))) (hs : h[sk]? = some (.lst (ss.map encO))) : F_web_of [.int n, .ref tk, .ref bk, .ref sk] h = .ok (webOf n T bs ss).enc h := by
  obtain ⟨h1, r1, N⟩ := neighbours_ok hn1 hn O ht
  obtain ⟨A, hA⟩ : ∃ A, A = h.length := ⟨_, rfl⟩
  rw [← hA] at r1 N
  obtain ⟨g, hg, lg⟩ := N.pre
  have old : ∀ {k : Nat} {c : Cell}, h[k]? = some c → h1[k]? = some c := fun {k c} e => by rw [hg, List.getElem?_append_left (List.getElem?_eq_some_iff.mp e).1]; exact e
  have comp := rows_ok hn O N
  have bt := bars_told_ok (n := n) (l := (List.range n).map fun i => .ref (A + i)) N.rf (by simp) (old hb) lb
  have stt := stays_told_ok (n := n) (old hs) ls os
  have i1 : (1 : Int) ≤ n := Int.ofNat_le.mpr hn1
  have i2 : (n : Int) ≤ 30 := Int.ofNat_le.mpr hn
  have rf := N.rf
  have s1 : sIf (tNot (tE (fCall F_is_between (aCons (fVar 0) (aCons (fC (.int 1)) (aCons (fC (.int 30)) aNil)))))) sBad sNil [some (.int n), some (.ref tk), some (.ref bk), some (.ref sk), none, none] h = .nx [some (.int n), some (.ref tk), some (.ref bk), some (.ref sk), none, none] h := ev_f (ev_not (b := true) (ev_b (ev_call (ev_cons rfl (ev_2 rfl rfl)) (by rw [is_between_int, decide_eq_true i1, decide_eq_true i2]; rfl))))
  have s2 : sSet (gN 4) (fCall F_neighbours (aCons (fVar 0) (aCons (fVar 1) aNil))) [some (.int n), some (.ref tk), some (.ref bk), some (.ref sk), none, none] h = .nx [some (.int n), some (.ref tk), some (.ref bk), some (.ref sk), some (.ref (A + n)), none] h1 := ev_set (ev_call (ev_2 rfl rfl) r1)
  have s3 : sSet (gN 5) (fTupL (lComp 1 [] (iSeq (fVar 4)) (gN 0) [] (fTupL (lSortI (fVar 0))))) [some (.int n), some (.ref tk), some (.ref bk), some (.ref sk), some (.ref (A + n)), none] h1 = .nx [some (.int n), some (.ref tk), some (.ref bk), some (.ref sk), some (.ref (A + n)), some (.tup (((List.range n).map fun i => sortN (nbs T i)).map encR))] h1 := by
    exact ev_set (ev_tupL (ev_comp (ev_iseq rfl rf) comp))
  have s4 : sRet (fTup (aCons (fVar 5) (aCons (fCall F_bars_told (aCons (fVar 4) (aCons (fVar 2) aNil))) (aCons (fCall F_stays_told (aCons (fVar 0) (aCons (fVar 3) aNil))) aNil)))) [some (.int n), some (.ref tk), some (.ref bk), some (.ref sk), some (.ref (A + n)), some (.tup (((List.range n).map fun i => sortN (nbs T i)).map encR))] h1 = .rt (webOf n T bs ss).enc h1 := by
    exact ev_ret (ev_tup (ev_cons rfl (ev_cons (ev_call (ev_2 rfl rfl) bt) (ev_cons (ev_call (ev_2 rfl rfl) stt) rfl))))
  have st : ([D.int n, D.ref tk, D.ref bk, D.ref sk].map some ++ List.replicate (6 - [D.int n, D.ref tk, D.ref bk, D.ref sk].length) none : Sd) = [some (.int n), some (.ref tk), some (.ref bk), some (.ref sk), none, none] := rfl
  unfold F_web_of mkFn runB
  rw [if_pos (show [D.int n, D.ref tk, D.ref bk, D.ref sk].length = 4 from rfl), st, seq_nx' s1, seq_nx' s2, seq_nx' s3, s4]
  show letGo h (.ok _ h1) = _
  rw [hg]
  exact letGo_pure (pure_web _)
end Fm
set_option linter.all false
namespace Fm
theorem pulled_sum (s : List Int) : ∀ r : List (Nat × Int), pulled r s = (r.map fun p => if s.getD p.1 0 = 1 then p.2 else 0).sum
  | [] => rfl
  | p :: r => by
    have ih := pulled_sum s r
    simp only [pulled, pulledL, List.filter_cons, List.map_cons, List.sum_cons] at ih ⊢
    by_cases e : s.getD p.1 0 = 1
    · simp only [e, decide_true, if_true, List.map_cons, List.sum_cons]; rw [ih]
    · simp only [e, decide_false, if_false, Bool.false_eq_true]; rw [ih]; omega
theorem pulled_sort (s : List Int) (r : List (Nat × Int)) : pulled (sortN r) s = pulled r s := by rw [pulled_sum, pulled_sum, sum_sortN]
theorem nbs_lt {n : Nat} {T : List Tie} (lt : ∀ t ∈ T, t.a < n ∧ t.b < n) {i : Nat} : ∀ p ∈ nbs T i, p.1 < n := fun p hp => by
  unfold nbs at hp
  obtain ⟨t, ht', q⟩ := List.mem_filterMap.mp hp
  have := lt t ht'
  unfold far at q
  by_cases a1 : t.a = i
  · rw [if_pos a1] at q; simp at q; subst q; exact this.2
  · rw [if_neg a1] at q
    by_cases a2 : t.b = i
    · rw [if_pos a2] at q; simp at q; subst q; exact this.1
    · rw [if_neg a2] at q; cases q
theorem webOf_ok {n : Nat} (hn : n ≤ 30) {T : List Tie} (O : TOk n n 0 T) {bs : List Int} {ss : List (Option Int)} (lb : bs.length = n) (ls : ss.length = n) : (webOf n T bs ss).Ok n := by
  refine ⟨by simp [webOf], lb, ls, fun r hr p hp => ?_, by omega⟩
  obtain ⟨i, _, rfl⟩ := List.mem_map.mp hr
  exact nbs_lt O.lt p (mem_sortN.mp hp)
structure Told (n : Nat) (T : List Tie) (bs : List Int) (ss : List (Option Int)) (tk bk sk : Nat) (h : Hd) : Prop where
  ti : h[tk]? = some (.lst (T.map encT))
  ba : h[bk]? = some (.lst (bs.map .int))
  st : h[sk]? = some (.lst (ss.map encO))
theorem webOf_next {n : Nat} {T : List Tie} {bs : List Int} {ss : List (Option Int)} {s : List Int} {one : Nat} (h1 : one < n) : nextI (webOf n T bs ss) s one = match ss.getD one none with
    | some x => x
    | none => if 2 * pulled (nbs T one) s = bs.getD one 0 then s.getD one 0 else if bs.getD one 0 < 2 * pulled (nbs T one) s then 1 else 0 := by
  have e : ((webOf n T bs ss).ties.getD one []) = sortN (nbs T one) := by simp [webOf, List.getD, h1]
  unfold nextI
  rw [e, pulled_sort]
  rfl
theorem peqs_mapN {α : Type} {f : α → D} (h : ∀ x, peq (f x) (f x) = some true) : ∀ l : List α, peqs (l.map f) (l.map f) = some true
  | [] => rfl
  | x :: l => by simp [peqs, h x, peqs_mapN h l]
theorem deps_mapN {α : Type} {f : α → D} {k : Nat} (h : ∀ x, dep (f x) ≤ k) : ∀ l : List α, deps (l.map f) ≤ k
  | [] => Nat.zero_le _
  | x :: l => by simp only [List.map_cons, deps]; exact Nat.max_le.mpr ⟨h x, deps_mapN h l⟩
theorem oNe_same {d : D} (h1 : peq d d = some true) (h2 : dep d ≤ 20) (h3 : ∀ g, lstOf g d = none) (g : Hd) : oNe d d g = .ok (.bl false) g := by
  unfold oNe eqG
  rw [h3]
  simp only [if_pos h2, h1]
  rfl
theorem oNe_st (s : List Int) (g : Hd) : oNe (encI s) (encI s) g = .ok (.bl false) g := by
  have p4 : ∀ x : Int, peq (.int x) (.int x) = some true := fun x => by simp [peq]
  have d4 : ∀ x : Int, dep (.int x) ≤ 0 := fun x => by simp [dep]
  have e2 := deps_mapN d4 s
  exact oNe_same (by simp [encI, peq, peqs_mapN p4 s]) (by simp only [encI, dep]; omega) (fun _ => rfl) g
structure FitS (n : Nat) (ss : List (Option Int)) (s : List Int) : Prop where
  len : s.length = n
  op : ∀ x ∈ s, x = 0 ∨ x = 1
  st : ∀ (i : Nat) x, ss[i]? = some (some x) → s[i]? = some x
theorem FitS.fits {n : Nat} {ss : List (Option Int)} {s : List Int} (f : FitS n ss s) (T : List Tie) (bs : List Int) : Fits (webOf n T bs ss) n s := ⟨f.len, f.op, f.st⟩
end Fm
set_option linter.all false
namespace Fm
noncomputable def LeS (a b : List Int) : Prop := ∀ i : Nat, a.getD i 0 ≤ b.getD i 0
theorem LeS.refl (a : List Int) : LeS a a := fun _ => Int.le_refl _
noncomputable def BitS (a : List Int) : Prop := ∀ i : Nat, a.getD i 0 = 0 ∨ a.getD i 0 = 1
theorem LeS.eq {a b : List Int} (l : a.length = b.length) (x : LeS a b) (y : LeS b a) : a = b := by
  apply List.ext_getElem l
  intro i h1 h2
  have x1 := x i
  have y1 := y i
  simp only [List.getD, List.getElem?_eq_getElem h1, List.getElem?_eq_getElem h2, Option.getD_some] at x1 y1
  omega
theorem pulled_cons (p : Nat × Int) (r : List (Nat × Int)) (s : List Int) : pulled (p :: r) s = (if s.getD p.1 0 = 1 then p.2 else 0) + pulled r s := by
  unfold pulled pulledL
  by_cases e : s.getD p.1 0 = 1
  · rw [List.filter_cons, if_pos (by simp only [decide_eq_true_eq]; exact e), if_pos e]; rfl
  · rw [List.filter_cons, if_neg (by simp only [decide_eq_true_eq]; exact e), if_neg e]; omega
theorem pulled_mono {a b : List Int} (B : BitS b) (l : LeS a b) : ∀ {r : List (Nat × Int)}, (∀ p ∈ r, 0 ≤ p.2) → pulled r a ≤ pulled r b
  | [], _ => Int.le_refl _
  | p :: r, h => by
    have ih := pulled_mono B l (r := r) fun q hq => h q (by simp [hq])
    have h0 := h p (by simp)
    have l0 := l p.1
    have b0 := B p.1
    rw [pulled_cons, pulled_cons]
    by_cases e : a.getD p.1 0 = 1
    · have e2 : b.getD p.1 0 = 1 := by omega
      rw [if_pos e, if_pos e2]; omega
    · rw [if_neg e]
      by_cases e2 : b.getD p.1 0 = 1
      · rw [if_pos e2]; omega
      · rw [if_neg e2]; omega
theorem nx_mono {P1 P2 c1 c2 x y : Int} (hp : P1 ≤ P2) (hb : c2 ≤ c1) (l : x ≤ y) (b1 : x = 0 ∨ x = 1) (b2 : y = 0 ∨ y = 1) : (if 2 * P1 = c1 then x else if c1 < 2 * P1 then 1 else 0) ≤ (if 2 * P2 = c2 then y else if c2 < 2 * P2 then (1 : Int) else 0) := by
  have y0 : 0 ≤ y := by rcases b2 with rfl | rfl <;> decide
  have x1 : x ≤ 1 := by rcases b1 with rfl | rfl <;> decide
  have q : 2 * P1 ≤ 2 * P2 := Int.mul_le_mul_of_nonneg_left hp (by decide)
  generalize 2 * P1 = A at q
  generalize 2 * P2 = B at q
  by_cases e1 : A = c1
  · rw [if_pos e1]
    by_cases e2 : B = c2
    · rw [if_pos e2]; exact l
    · rw [if_neg e2, if_pos (Int.lt_iff_le_and_ne.mpr ⟨Int.le_trans hb (e1 ▸ q), Ne.symm e2⟩)]; exact x1
  · rw [if_neg e1]
    by_cases e3 : c1 < A
    · have e4 : c2 < B := Int.lt_of_le_of_lt hb (Int.lt_of_lt_of_le e3 q)
      rw [if_pos e3, if_neg (Int.ne_of_gt e4), if_pos e4]; exact Int.le_refl _
    · rw [if_neg e3]
      by_cases e2 : B = c2
      · rw [if_pos e2]; exact y0
      · rw [if_neg e2]
        split
        · decide
        · exact Int.le_refl _
theorem nextI_mono {w1 w2 : Web} {a b : List Int} {p : Nat} (hp : pulled (w1.ties.getD p []) a ≤ pulled (w2.ties.getD p []) b) (hb : w2.bars.getD p 0 ≤ w1.bars.getD p 0) (B1 : BitS a) (B2 : BitS b) (le : LeS a b)
    (st : (w1.stays.getD p none = none ∧ w2.stays.getD p none = none) ∨ w1.stays.getD p none = some 0 ∨ w2.stays.getD p none = some 1) (n1 : nextI w1 a p = 0 ∨ nextI w1 a p = 1) (n2 : nextI w2 b p = 0 ∨ nextI w2 b p = 1) : nextI w1 a p ≤ nextI w2 b p := by
  rcases st with ⟨s1, s2⟩ | s | s
  · have b1 := B1 p
    have b2 := B2 p
    have l := le p
    unfold nextI
    rw [s1, s2]
    generalize pulled (w1.ties.getD p []) a = P1 at *
    generalize pulled (w2.ties.getD p []) b = P2 at *
    generalize w1.bars.getD p 0 = c1 at *
    generalize w2.bars.getD p 0 = c2 at *
    generalize a.getD p 0 = x at *
    generalize b.getD p 0 = y at *
    exact nx_mono hp hb l b1 b2
  · have : nextI w1 a p = 0 := by unfold nextI; rw [s]
    omega
  · have : nextI w2 b p = 1 := by unfold nextI; rw [s]
    omega
theorem turnS_get (w : Web) (n : Nat) (s : List Int) (i : Nat) : (turnS w n s).getD i 0 = if i < n then nextI w s i else 0 := by
  unfold turnS
  by_cases h : i < n <;> simp [List.getD, h]
theorem Fits.bits {w : Web} {n : Nat} {s : List Int} (F : Fits w n s) : BitS s := fun i => fits_bit F i
structure More (w1 w2 : Web) (n : Nat) : Prop where
  go : ∀ a b, Fits w1 n a → Fits w2 n b → LeS a b → LeS (turnS w1 n a) (turnS w2 n b)
theorem more_mk {w1 w2 : Web} {n : Nat} (S1 : StayOk w1) (S2 : StayOk w2) (hp : ∀ p, p < n → ∀ a b, BitS a → BitS b → LeS a b → pulled (w1.ties.getD p []) a ≤ pulled (w2.ties.getD p []) b) (hb : ∀ p, p < n → w2.bars.getD p 0 ≤ w1.bars.getD p 0)
    (st : ∀ p, p < n → (w1.stays.getD p none = none ∧ w2.stays.getD p none = none) ∨ w1.stays.getD p none = some 0 ∨ w2.stays.getD p none = some 1) : More w1 w2 n :=
  ⟨fun a b Fa Fb le i => by
    rw [turnS_get, turnS_get]
    by_cases h : i < n
    · rw [if_pos h, if_pos h]
      exact nextI_mono (hp i h a b Fa.bits Fb.bits le) (hb i h) Fa.bits Fb.bits le (st i h) (next_bit Fa S1 i) (next_bit Fb S2 i)
    · rw [if_neg h, if_neg h]; exact Int.le_refl _⟩
theorem hist_more {w1 w2 : Web} {n : Nat} (W1 : w1.Ok n) (W2 : w2.Ok n) (S1 : StayOk w1) (S2 : StayOk w2) (M : More w1 w2 n) {a b : List Int} (Fa : Fits w1 n a) (Fb : Fits w2 n b) (le : LeS a b) : ∀ k, LeS (hist w1 n a k) (hist w2 n b k)
  | 0 => le
  | k + 1 => M.go _ _ (hist_fits W1 S1 Fa k) (hist_fits W2 S2 Fb k) (hist_more W1 W2 S1 S2 M Fa Fb le k)
end Fm
set_option linter.all false
namespace Fm
noncomputable def S2 (R : Nat → List (Nat × Int)) (f s : Nat → Int) : Nat → Int
  | 0 => 0
  | k + 1 => S2 R f s k + ((R k).map fun p => p.2 * f p.1 * s k).sum
noncomputable def sumR (g : Nat → Int) : Nat → Int
  | 0 => 0
  | n + 1 => sumR g n + g n
theorem sum_range (g : Nat → Int) (n : Nat) : ((List.range n).map g).sum = sumR g n := by
  induction n with
  | zero => rfl
  | succ n ih => rw [List.range_succ, List.map_append, List.sum_append, ih]; simp [sumR]
end Fm
set_option linter.all false
namespace Fm
theorem peqs_ints : ∀ (a b : List Int), a.length = b.length → peqs (a.map .int) (b.map .int) = some (decide (a = b))
  | [], [], _ => by simp [peqs]
  | x :: a, y :: b, h => by
    have ih := peqs_ints a b (by simpa using h)
    simp only [List.map_cons, peqs, peq, ih]
    by_cases e : x = y <;> by_cases e2 : a = b <;> simp [e, e2]
  | [], _ :: _, h => by simp at h
  | _ :: _, [], h => by simp at h
theorem deps_ints (l : List Int) : deps (l.map .int) = 0 := by
  induction l with
  | nil => rfl
  | cons x l ih => simp [deps, dep, ih]
theorem dep_enc (l : List Int) : dep (encI l) = 1 := by simp [encI, dep, deps_ints]
theorem peq_enc {a b : List Int} (h : a.length = b.length) : peq (encI a) (encI b) = some (decide (a = b)) := by
  simp only [encI, peq, peqs_ints a b h, Option.map_some, List.length_map, h]
  simp
theorem eqG_enc {a b : List Int} (h : a.length = b.length) (hd : Hd) : eqG hd (encI a) (encI b) = some (decide (a = b)) := by
  have e1 : ∀ l, lstOf hd (encI l) = none := fun l => rfl
  simp only [eqG, e1, dep_enc, peq_enc h]
  rfl
theorem oNe_enc {a b : List Int} (h : a.length = b.length) (hd : Hd) : oNe (encI a) (encI b) hd = .ok (.bl (!decide (a = b))) hd := by
  unfold oNe; rw [eqG_enc h]
theorem oEq_enc {a b : List Int} (h : a.length = b.length) (hd : Hd) : oEq (encI a) (encI b) hd = .ok (.bl (decide (a = b))) hd := by
  unfold oEq; rw [eqG_enc h]
theorem ng_of {k n : Nat} (h1 : 1 ≤ k) (h2 : k ≤ n) : ¬ 0 ≤ -(k : Int) ∧ -(n : Int) ≤ -(k : Int) ∧ (-(k : Int) + (n : Int)).toNat = n - k := by omega
theorem atI_neg {l : List D} {k : Nat} (h1 : 1 ≤ k) (h2 : k ≤ l.length) : atI l (-(k : Int)) = l[l.length - k]? := by
  have q := ng_of h1 h2
  unfold atI ixN
  rw [if_neg q.1, if_pos q.2.1, q.2.2]; rfl
theorem histL_bk {w : Web} {n : Nat} {s : List Int} (k j : Nat) (h1 : 1 ≤ j) : atI ((histL w n s (k + j)).map encI) (-(j : Int)) = some (encI (hist w n s k)) := by
  rw [atI_neg h1 (by rw [List.length_map, histL_len]; exact Nat.le_add_left j k), List.length_map, histL_len, Nat.add_sub_cancel, List.getElem?_map, histL, List.getElem?_map, List.getElem?_range (Nat.lt_add_of_pos_right h1)]; rfl
theorem seq_nx {a b : SF} {σ σ' : Sd} {h h' : Hd} (e : a σ h = .nx σ' h') : sSeq a b σ h = b σ' h' := by simp [sSeq, e]
theorem ended_ok {w : Web} {n : Nat} {s : List Int} (W : w.Ok n) (S : StayOk w) (F : Fits w n s) {t : Nat} (ht : hist w n s (t + 2) = hist w n s t) (hm : ∀ k, k < t → hist w n s (k + 2) ≠ hist w n s k) (hz : t ≤ 900000) (h : Hd) :
    F_ended [w.enc, encI s] h = .ok (.tup [.int t, .str (if hist w n s (t + 1) = hist w n s t then [114, 101, 115, 116] else [112, 97, 105, 114]), .ref h.length]) (h ++ [.lst ((histL w n s (t + 2)).map encI)]) := by
  have L : ∀ k, (hist w n s k).length = n := fun k => (hist_fits W S F k).len
  have loop : ∀ j k, k + j = t → whileN (tE (fBin oNe (fVar 3) (fAt (fVar 2) (fC (.int (-2)))))) B0_ended (j + 1) [some w.enc, some (encI s), some (.ref h.length), some (encI (hist w n s (k + 2))), none] (h ++ [.lst ((histL w n s (k + 2)).map encI)])
      = .nx [some w.enc, some (encI s), some (.ref h.length), some (encI (hist w n s (t + 2))), none] (h ++ [.lst ((histL w n s (t + 2)).map encI)]) := by
    intro j
    induction j with
    | zero =>
      intro k hk
      have : k = t := hk
      subst this
      have b' : atI ((histL w n s (k + 2)).map encI) (-2) = some (encI (hist w n s k)) := histL_bk k 2 (by decide)
      have test : tE (fBin oNe (fVar 3) (fAt (fVar 2) (fC (.int (-2))))) [some w.enc, some (encI s), some (.ref h.length), some (encI (hist w n s (k + 2))), none] (h ++ [.lst ((histL w n s (k + 2)).map encI)]) = .ok false (h ++ [.lst ((histL w n s (k + 2)).map encI)]) := by
        rw [ht]
        exact ev_b (ev_bin rfl (ev_at rfl rfl (ev_seq List.getElem?_concat_length) b') (by rw [oNe_enc rfl, decide_eq_true rfl]; rfl))
      simp only [whileN, test]
    | succ j ih =>
      intro k hk
      have b' : atI ((histL w n s (k + 2)).map encI) (-2) = some (encI (hist w n s k)) := histL_bk k 2 (by decide)
      have test : tE (fBin oNe (fVar 3) (fAt (fVar 2) (fC (.int (-2))))) [some w.enc, some (encI s), some (.ref h.length), some (encI (hist w n s (k + 2))), none] (h ++ [.lst ((histL w n s (k + 2)).map encI)]) = .ok true (h ++ [.lst ((histL w n s (k + 2)).map encI)]) := by
        exact ev_b (ev_bin rfl (ev_at rfl rfl (ev_seq List.getElem?_concat_length) b') (by rw [oNe_enc ((L (k + 2)).trans (L k).symm), decide_eq_false (hm k (hk ▸ Nat.lt_add_of_pos_right (Nat.succ_pos j)))]; rfl))
      have lz : ((histL w n s (k + 2)).map encI).length < SZ := by rw [List.length_map, histL_len]; exact Nat.lt_of_le_of_lt (Nat.add_le_add_right (Nat.le_trans (hk ▸ Nat.le_add_right k (j + 1)) hz) 2) (by decide)
      have tk := turn_at_ok W (hist_fits W S F (k + 2)) (h ++ [.lst ((histL w n s (k + 3)).map encI)])
      have body : B0_ended [some w.enc, some (encI s), some (.ref h.length), some (encI (hist w n s (k + 2))), none] (h ++ [.lst ((histL w n s (k + 2)).map encI)]) = .nx [some w.enc, some (encI s), some (.ref h.length), some (encI (hist w n s (k + 3))), none] (h ++ [.lst ((histL w n s (k + 3)).map encI)]) := by
        have st1 : sExp (fApp (fVar 2) (fVar 3)) [some w.enc, some (encI s), some (.ref h.length), some (encI (hist w n s (k + 2))), none] (h ++ [.lst ((histL w n s (k + 2)).map encI)]) = .nx [some w.enc, some (encI s), some (.ref h.length), some (encI (hist w n s (k + 2))), none] (h ++ [.lst ((histL w n s (k + 3)).map encI)]) := by
          rw [show histL w n s (k + 3) = histL w n s (k + 2) ++ [hist w n s (k + 2)] from histL_succ (k + 2), List.map_append]
          exact (ev_exp (ev_app rfl List.getElem?_concat_length rfl List.getElem?_concat_length lz)).trans (by rw [set_end rfl]; rfl)
        exact (seq_nx st1).trans (ev_set (ev_call (ev_2 rfl rfl) tk))
      rw [whileN, test]
      simp only [body]
      exact ih (k + 1) (by rw [Nat.add_right_comm]; exact hk)
  have wl := sWhile_eq (loop t 0 (Nat.zero_add t)) (by simp)
  have t0 := turn_at_ok W F h
  have t1 := turn_at_ok W (hist_fits W S F 1) (h ++ [.lst ((histL w n s 2).map encI)])
  have e1 : [encI s, encI (turnS w n s)] = (histL w n s 2).map encI := by simp [histL, List.range_succ, hist]
  have a1 : atI ((histL w n s 2).map encI) 1 = some (encI (hist w n s 1)) := histL_at (w := w) (n := n) (s := s) (m := 2) (i := 1) (by decide)
  have b1' : atI ((histL w n s (t + 2)).map encI) (-1) = some (encI (hist w n s (t + 1))) := histL_bk (t + 1) 1 (by decide)
  have b2' : atI ((histL w n s (t + 2)).map encI) (-2) = some (encI (hist w n s t)) := histL_bk t 2 (by decide)
  have ln : (histL w n s (t + 2)).length = t + 2 := histL_len _
  have eqw := oEq_enc (a := hist w n s (t + 1)) (b := hist w n s t) ((L (t + 1)).trans (L t).symm) (h ++ [.lst ((histL w n s (t + 2)).map encI)])
  simp only [hist] at t1
  simp only [hist] at a1
  have hh1 : hist w n s (0 + 2) = turnS w n (turnS w n s) := rfl
  rw [hh1, show 0 + 2 = 2 from rfl] at wl
  have s1 : sSet (gN 2) (fNew (aCons (fVar 1) (aCons (fCall F_turn_at (aCons (fVar 0) (aCons (fVar 1) aNil))) aNil))) [some w.enc, some (encI s), none, none, none] h
      = .nx [some w.enc, some (encI s), some (.ref h.length), none, none] (h ++ [.lst ((histL w n s 2).map encI)]) := by
    rw [← e1]; exact ev_set (ev_new (ev_cons rfl (ev_cons (ev_call (ev_2 rfl rfl) t0) rfl)))
  have s2 : sSet (gN 3) (fCall F_turn_at (aCons (fVar 0) (aCons (fAt (fVar 2) (fC (.int 1))) aNil))) [some w.enc, some (encI s), some (.ref h.length), none, none] (h ++ [.lst ((histL w n s 2).map encI)])
      = .nx [some w.enc, some (encI s), some (.ref h.length), some (encI (turnS w n (turnS w n s))), none] (h ++ [.lst ((histL w n s 2).map encI)]) := by
    exact ev_set (ev_call (ev_cons rfl (ev_cons (ev_at rfl rfl (ev_seq List.getElem?_concat_length) a1) rfl)) t1)
  have s3 : sSet (gN 4) (fIf (tE (fBin oEq (fAt (fVar 2) (fC (.int (-1)))) (fAt (fVar 2) (fC (.int (-2)))))) (fC (.str [114, 101, 115, 116])) (fC (.str [112, 97, 105, 114]))) [some w.enc, some (encI s), some (.ref h.length), some (encI (hist w n s (t + 2))), none] (h ++ [.lst ((histL w n s (t + 2)).map encI)])
      = .nx [some w.enc, some (encI s), some (.ref h.length), some (encI (hist w n s (t + 2))), some (.str (if hist w n s (t + 1) = hist w n s t then [114, 101, 115, 116] else [112, 97, 105, 114]))] (h ++ [.lst ((histL w n s (t + 2)).map encI)]) := by
    by_cases q : hist w n s (t + 1) = hist w n s t
    · rw [if_pos q]; rw [decide_eq_true q] at eqw
      exact ev_set ((ev_ift (ev_b (ev_bin (ev_at rfl rfl (ev_seq List.getElem?_concat_length) b1') (ev_at rfl rfl (ev_seq List.getElem?_concat_length) b2') eqw))).trans rfl)
    · rw [if_neg q]; rw [decide_eq_false q] at eqw
      exact ev_set ((ev_iff (ev_b (ev_bin (ev_at rfl rfl (ev_seq List.getElem?_concat_length) b1') (ev_at rfl rfl (ev_seq List.getElem?_concat_length) b2') eqw))).trans rfl)
  have ck : sExp (fCall F_check_stand (aCons (fVar 0) (aCons (fVar 1) aNil))) [some w.enc, some (encI s), none, none, none] h = .nx [some w.enc, some (encI s), none, none, none] h := ev_exp (ev_call (ev_2 rfl rfl) (check_ok W F h))
  have st : ([w.enc, encI s].map some ++ List.replicate (5 - [w.enc, encI s].length) none : Sd) = [some w.enc, some (encI s), none, none, none] := rfl
  unfold F_ended mkFn runB
  rw [if_pos (show [w.enc, encI s].length = 2 from rfl), st, seq_nx ck, seq_nx s1, seq_nx s2, seq_nx wl, seq_nx s3]
  have z : ((t : Int) + 2) - 2 = t := by omega
  simp [ln, SZ, z, letGo, pure?, pures]
end Fm
set_option linter.all false
namespace Fm
noncomputable def F_is_rest : Fn := mkFn 2 2 (sSeq (sExp (fCall F_check_stand (aCons (fVar 0) (aCons (fVar 1) aNil))))
    (sRet (fBin oEq (fCall F_turn_at (aCons (fVar 0) (aCons (fVar 1) aNil))) (fVar 1))))
noncomputable def F_end_of : Fn := mkFn 2 2 (sRet (fAt (fAt (fCall F_ended (aCons (fVar 0) (aCons (fVar 1) aNil))) (fC (.int 2))) (fC (.int (-1)))))
noncomputable def F_stays_of : Fn := mkFn 1 1 (sRet (fNew (lOf (fAt (fVar 0) (fC (.int 2))))))
noncomputable def F_stand_of_all : Fn := mkFn 2 2 (sRet (fTupL (lComp 1 [1] (iSeq (fCall F_stays_of (aCons (fVar 0) aNil))) (gN 0) [] (fIf (tE (fBin oIsN (fVar 0) (fC .non))) (fVar 1) (fVar 0)))))
noncomputable def F_least_rest : Fn := mkFn 1 1 (sRet (fCall F_end_of (aCons (fVar 0) (aCons (fCall F_stand_of_all (aCons (fVar 0) (aCons (fC (.int 0)) aNil))) aNil))))
noncomputable def F_greatest_rest : Fn := mkFn 1 1 (sRet (fCall F_end_of (aCons (fVar 0) (aCons (fCall F_stand_of_all (aCons (fVar 0) (aCons (fC (.int 1)) aNil))) aNil))))
noncomputable def F_check_rests : Fn := mkFn 3 3 (sSeq (sExp (fCall F_check_stand (aCons (fVar 0) (aCons (fVar 1) aNil))))
    (sSeq (sExp (fCall F_check_stand (aCons (fVar 0) (aCons (fVar 2) aNil))))
    (sIf (tOr (tNot (tE (fCall F_is_rest (aCons (fVar 0) (aCons (fVar 1) aNil))))) (tNot (tE (fCall F_is_rest (aCons (fVar 0) (aCons (fVar 2) aNil)))))) sBad sNil)))
noncomputable def F_joined : Fn := mkFn 3 3 (sSeq (sExp (fCall F_check_rests (aCons (fVar 0) (aCons (fVar 1) (aCons (fVar 2) aNil)))))
    (sRet (fCall F_end_of (aCons (fVar 0) (aCons (fTupL (lComp 2 [] (iZip (fVar 1) (fVar 2)) (gT [0, 1]) [] (fMax (fVar 0) (fVar 1)))) aNil)))))
noncomputable def F_met : Fn := mkFn 3 3 (sSeq (sExp (fCall F_check_rests (aCons (fVar 0) (aCons (fVar 1) (aCons (fVar 2) aNil)))))
    (sRet (fCall F_end_of (aCons (fVar 0) (aCons (fTupL (lComp 2 [] (iZip (fVar 1) (fVar 2)) (gT [0, 1]) [] (fMin (fVar 0) (fVar 1)))) aNil)))))
end Fm
set_option linter.all false
namespace Fm
theorem pure_encI (l : List Int) : pure? (encI l) = true := by
  unfold encI; simp only [pure?]
  induction l with
  | nil => rfl
  | cons x l ih => simp [pures, pure?, ih]
noncomputable def leastS (ss : List (Option Int)) : List Int := ss.map fun u => if u = some 1 then 1 else 0
noncomputable def greatS (ss : List (Option Int)) : List Int := ss.map fun u => if u = some 0 then 0 else 1
theorem least_fit {w : Web} {n : Nat} (W : w.Ok n) (S : StayOk w) : Fits w n (leastS w.stays) := by
  refine ⟨by simp [leastS, W.s], fun x hx => ?_, fun i x hx => ?_⟩
  · obtain ⟨u, _, rfl⟩ := List.mem_map.mp hx
    split <;> simp
  · have := S _ (List.mem_of_getElem? hx)
    simp at this
    rcases this with e | e <;> subst e <;> simp [leastS, hx]
theorem great_fit {w : Web} {n : Nat} (W : w.Ok n) (S : StayOk w) : Fits w n (greatS w.stays) := by
  refine ⟨by simp [greatS, W.s], fun x hx => ?_, fun i x hx => ?_⟩
  · obtain ⟨u, _, rfl⟩ := List.mem_map.mp hx
    split <;> simp
  · have := S _ (List.mem_of_getElem? hx)
    simp at this
    rcases this with e | e <;> subst e <;> simp [greatS, hx]
theorem least_le {w : Web} {n : Nat} {s : List Int} (F : Fits w n s) : LeS (leastS w.stays) s := fun i => by
  have b := F.bits i
  cases e : w.stays[i]? with
  | none =>
    have z : (leastS w.stays).getD i 0 = 0 := by simp [leastS, List.getD, e]
    omega
  | some u =>
    by_cases c : u = some 1
    · subst c
      have := F.st i 1 e
      simp [leastS, List.getD, e, this]
    · simp only [leastS, List.getD, List.getElem?_map, e, Option.map_some, Option.getD_some, if_neg c] at b ⊢; omega
theorem great_le {w : Web} {n : Nat} {s : List Int} (W : w.Ok n) (F : Fits w n s) : LeS s (greatS w.stays) := fun i => by
  have b := F.bits i
  cases e : w.stays[i]? with
  | none =>
    have l : w.stays.length ≤ i := List.getElem?_eq_none_iff.mp e
    have l2 : s.length ≤ i := by rw [F.len, ← W.s]; exact l
    simp [greatS, List.getD, e, List.getElem?_eq_none l2]
  | some u =>
    by_cases c : u = some 0
    · subst c
      have := F.st i 0 e
      simp [greatS, List.getD, e, this]
    · simp only [greatS, List.getD, List.getElem?_map, e, Option.map_some, Option.getD_some, if_neg c] at b ⊢; omega
noncomputable def ones (s : List Int) : Nat → Int
  | 0 => 0
  | n + 1 => ones s n + s.getD n 0
theorem ones_bd {s : List Int} (B : BitS s) : ∀ n, 0 ≤ ones s n ∧ ones s n ≤ n
  | 0 => by simp [ones]
  | n + 1 => by have := ones_bd B n; have := B n; rw [ones]; omega
theorem ones_le {a b : List Int} (l : LeS a b) : ∀ n, ones a n ≤ ones b n
  | 0 => Int.le_refl _
  | n + 1 => by have := ones_le l n; have := l n; rw [ones, ones]; omega
theorem ol1 {A B x y : Int} (h : A ≤ B) (l : x ≤ y) (ne : x ≠ y) : A + x + 1 ≤ B + y := by omega
theorem ol2 {A B x y : Int} (h : A + 1 ≤ B) (l : x ≤ y) : A + x + 1 ≤ B + y := by omega
theorem ones_lt {a b : List Int} (l : LeS a b) : ∀ {n : Nat}, (∃ p, p < n ∧ a.getD p 0 ≠ b.getD p 0) → ones a n + 1 ≤ ones b n
  | 0, h => by obtain ⟨p, hp, _⟩ := h; exact absurd hp (Nat.not_lt_zero _)
  | n + 1, h => by
    obtain ⟨p, hp, ne⟩ := h
    have l0 := l n
    rw [ones, ones]
    by_cases e : p = n
    · subst e
      exact ol1 (ones_le l p) l0 ne
    · exact ol2 (ones_lt l (n := n) ⟨p, Nat.lt_of_le_of_ne (Nat.le_of_lt_succ hp) e, ne⟩) l0
theorem ne_at {a b : List Int} {n : Nat} (ha : a.length = n) (hb : b.length = n) (h : a ≠ b) : ∃ p, p < n ∧ a.getD p 0 ≠ b.getD p 0 := by
  by_cases c : ∃ p, p < n ∧ a.getD p 0 ≠ b.getD p 0
  · exact c
  · exfalso
    apply h
    apply List.ext_getElem (by omega)
    intro i h1 h2
    by_cases e : a.getD i 0 = b.getD i 0
    · simpa [List.getD, h1, h2] using e
    · exact absurd ⟨i, by omega, e⟩ c
section
variable {w : Web} {n : Nat} {s : List Int}
theorem rise_hist (W : w.Ok n) (S : StayOk w) (M : More w w n) (F : Fits w n s) (r : LeS s (turnS w n s)) : ∀ k, LeS (hist w n s k) (hist w n s (k + 1))
  | 0 => r
  | k + 1 => M.go _ _ (hist_fits W S F k) (hist_fits W S F (k + 1)) (rise_hist W S M F r k)
theorem fall_hist (W : w.Ok n) (S : StayOk w) (M : More w w n) (F : Fits w n s) (r : LeS (turnS w n s) s) : ∀ k, LeS (hist w n s (k + 1)) (hist w n s k)
  | 0 => r
  | k + 1 => M.go _ _ (hist_fits W S F (k + 1)) (hist_fits W S F k) (fall_hist W S M F r k)
theorem hist_rest {t : Nat} (h : hist w n s (t + 1) = hist w n s t) : ∀ k, t ≤ k → hist w n s k = hist w n s t
  | 0, hk => by rw [Nat.le_zero.mp hk]
  | k + 1, hk => by
    by_cases e : t = k + 1
    · subst e; rfl
    · rw [hist, hist_rest h k (Nat.le_of_lt_succ (Nat.lt_of_le_of_ne hk e))]; exact h
theorem rise_stops (W : w.Ok n) (S : StayOk w) (M : More w w n) (F : Fits w n s) (r : LeS s (turnS w n s)) : ∃ t, t ≤ n ∧ hist w n s (t + 1) = hist w n s t := by
  by_cases c : ∃ t, t ≤ n ∧ hist w n s (t + 1) = hist w n s t
  · exact c
  · exfalso
    have up : ∀ k : Nat, k ≤ n + 1 → (k : Int) ≤ ones (hist w n s k) n := fun k => by
      induction k with
      | zero => intro _; have := ones_bd F.bits n; simp [hist]; omega
      | succ k ih =>
        intro hk
        have i1 := ih (by omega)
        have ne : hist w n s k ≠ hist w n s (k + 1) := fun z => c ⟨k, by omega, z.symm⟩
        have := ones_lt (rise_hist W S M F r k) (ne_at (hist_fits W S F k).len (hist_fits W S F (k + 1)).len ne)
        omega
    have := up (n + 1) (Nat.le_refl _)
    have := ones_bd (hist_fits W S F (n + 1)).bits n
    omega
theorem fall_stops (W : w.Ok n) (S : StayOk w) (M : More w w n) (F : Fits w n s) (r : LeS (turnS w n s) s) : ∃ t, t ≤ n ∧ hist w n s (t + 1) = hist w n s t := by
  by_cases c : ∃ t, t ≤ n ∧ hist w n s (t + 1) = hist w n s t
  · exact c
  · exfalso
    have dn : ∀ k : Nat, k ≤ n + 1 → ones (hist w n s k) n + k ≤ n := fun k => by
      induction k with
      | zero => intro _; have := ones_bd F.bits n; simp [hist]; omega
      | succ k ih =>
        intro hk
        have i1 := ih (by omega)
        have ne : hist w n s (k + 1) ≠ hist w n s k := fun z => c ⟨k, by omega, z⟩
        have := ones_lt (fall_hist W S M F r k) (ne_at (hist_fits W S F (k + 1)).len (hist_fits W S F k).len ne)
        omega
    have := dn (n + 1) (Nat.le_refl _)
    have := ones_bd (hist_fits W S F (n + 1)).bits n
    omega
theorem lt2 (a t : Nat) : t ≤ a + 2 * t ∧ t ≤ a + 2 * t + 1 := by omega
theorem min2 {t : Nat} (h : hist w n s (t + 1) = hist w n s t) : ∃ t0, t0 ≤ t ∧ hist w n s (t0 + 2) = hist w n s t0 ∧ (∀ k, k < t0 → hist w n s (k + 2) ≠ hist w n s k) ∧ hist w n s t0 = hist w n s t ∧ hist w n s (t0 + 1) = hist w n s t := by
  have ex : ∃ k, hist w n s (k + 2) = hist w n s k := ⟨t, by rw [hist_rest h (t + 2) (Nat.le_add_right t 2)]⟩
  have mn : ∃ k, hist w n s (k + 2) = hist w n s k ∧ ∀ j, j < k → hist w n s (j + 2) ≠ hist w n s j := by
    obtain ⟨k, hk⟩ := ex
    induction k using Nat.strongRecOn with
    | _ k ih =>
      by_cases c : ∃ j, j < k ∧ hist w n s (j + 2) = hist w n s j
      · obtain ⟨j, hj, e⟩ := c
        exact ih j hj e
      · exact ⟨k, hk, fun j hj e => c ⟨j, hj, e⟩⟩
  obtain ⟨t0, e0, m0⟩ := mn
  have le : t0 ≤ t := by
    by_cases z : t0 ≤ t
    · exact z
    · exact absurd (by rw [hist_rest h (t + 2) (Nat.le_add_right t 2)]) (m0 t (Nat.not_le.mp z))
  have per : ∀ m, hist w n s (t0 + 2 * m) = hist w n s t0 ∧ hist w n s (t0 + 2 * m + 1) = hist w n s (t0 + 1) := fun m => by
    induction m with
    | zero => exact ⟨rfl, rfl⟩
    | succ m ih =>
      have e1 : t0 + 2 * (m + 1) = (t0 + 2 * m + 1) + 1 := rfl
      have a : hist w n s (t0 + 2 * (m + 1)) = hist w n s t0 := by
        rw [e1, hist, ih.2, ← e0]; rfl
      refine ⟨a, ?_⟩
      rw [hist, a]; rfl
  refine ⟨t0, le, e0, m0, ?_, ?_⟩
  · rw [← (per t).1]; exact hist_rest h _ (lt2 t0 t).1
  · rw [← (per t).2]; exact hist_rest h _ (lt2 t0 t).2
theorem end_ended (W : w.Ok n) (S : StayOk w) (F : Fits w n s) {t : Nat} (h : hist w n s (t + 1) = hist w n s t) (hz : t ≤ 900000) (g : Hd) :
    ∃ (t0 : Nat) (L : List D), F_ended [w.enc, encI s] g = .ok (.tup [.int t0, .str [114, 101, 115, 116], .ref g.length]) (g ++ [.lst L]) ∧ atI L (-1) = some (encI (hist w n s t)) := by
  obtain ⟨t0, le, e0, m0, a1, a2⟩ := min2 h
  have q := ended_ok W S F e0 m0 (Nat.le_trans le hz) g
  have e1 : hist w n s (t0 + 1) = hist w n s t0 := by rw [a1, a2]
  refine ⟨t0, (histL w n s (t0 + 2)).map encI, ?_, ?_⟩
  · rw [q, if_pos e1]
  · rw [← a2]; exact histL_bk (t0 + 1) 1 (by decide)
theorem end_of_ok (W : w.Ok n) (S : StayOk w) (F : Fits w n s) {t : Nat} (h : hist w n s (t + 1) = hist w n s t) (hz : t ≤ 900000) (g : Hd) : F_end_of [w.enc, encI s] g = .ok (encI (hist w n s t)) g := by
  obtain ⟨t0, L, q, a⟩ := end_ended W S F h hz g
  have i2 : atI [D.int t0, .str [114, 101, 115, 116], .ref g.length] 2 = some (.ref g.length) := rfl
  have gl : (g ++ [Cell.lst L])[g.length]? = some (.lst L) := by simp
  have e : sRet (fAt (fAt (fCall F_ended (aCons (fVar 0) (aCons (fVar 1) aNil))) (fC (.int 2))) (fC (.int (-1)))) [some w.enc, some (encI s)] g = .rt (encI (hist w n s t)) (g ++ [.lst L]) := by
    exact ev_ret (ev_at (ev_at (ev_call (ev_2 rfl rfl) q) rfl rfl i2) rfl (ev_seq gl) a)
  exact (fn_rt rfl rfl e).trans (letGo_pure (pure_encI _))
end
end Fm
set_option linter.all false
namespace Fm
section
variable {w : Web} {n : Nat} {s : List Int}
theorem all_comp (S : StayOk w) {v : Int} (hv : v = 0 ∨ v = 1) {h : Hd} {k : Nat} (hk : h[k]? = some (.lst (w.stays.map encO))) (a : Option D) : compL (some k) (w.stays.map encO) (gN 0) [] (fIf (tE (fBin oIsN (fVar 0) (fC .non))) (fVar 1) (fVar 0)) (w.stays.map encO) [a, some (.int v)] h = .ok ((if v = 0 then leastS w.stays else greatS w.stays).map .int) h := by
  have := compL_pure (g := some k) (all := w.stays.map encO) (tg := gN 0) (cs := []) (e := fIf (tE (fBin oIsN (fVar 0) (fC .non))) (fVar 1) (fVar 0)) (h := h) (I := fun σ => ∃ a, σ = [a, some (.int v)]) (fun _ => true) (fun d => match d with | .int i => .int i | _ => .int v) hk
    (xs := w.stays.map encO) (σ := [a, some (.int v)]) (by
      rintro x hx σ ⟨c, rfl⟩
      obtain ⟨u, hu, rfl⟩ := List.mem_map.mp hx
      refine ⟨_, rfl, ⟨_, rfl⟩, rfl, fun _ => ?_⟩
      cases u with
      | none => exact (ev_ift (ev_b (ev_bin rfl rfl rfl))).trans rfl
      | some z => exact (ev_iff (ev_b (ev_bin rfl rfl rfl))).trans rfl) ⟨_, rfl⟩
  rw [this, List.filter_eq_self.mpr (by simp), List.map_map]
  congr 1
  rcases hv with e | e
  · subst e
    rw [if_pos rfl, leastS, List.map_map]
    apply List.map_congr_left
    intro u hu
    rcases S u hu with z | z | z <;> subst z <;> rfl
  · subst e
    rw [if_neg (by decide), greatS, List.map_map]
    apply List.map_congr_left
    intro u hu
    rcases S u hu with z | z | z <;> subst z <;> rfl
theorem stand_all_ok (W : w.Ok n) (S : StayOk w) {v : Int} (hv : v = 0 ∨ v = 1) (h : Hd) : F_stand_of_all [w.enc, .int v] h = .ok (encI (if v = 0 then leastS w.stays else greatS w.stays)) h := by
  have c2 := all_comp S hv (h := h ++ [.lst (w.stays.map encO)]) (k := h.length) List.getElem?_concat_length none
  have lz : (w.stays.map encO).length ≤ SZ := by rw [List.length_map, W.s]; exact Nat.le_trans W.sz (by decide)
  have so : F_stays_of [w.enc] h = .ok (.ref h.length) (h ++ [.lst (w.stays.map encO)]) := (fn_rt rfl rfl (ev_ret (ev_new (ev_lof (ev_at rfl rfl rfl rfl) rfl) lz))).trans letGo_ref'
  generalize (if v = 0 then leastS w.stays else greatS w.stays) = l at c2 ⊢
  have s2 : sRet (fTupL (lComp 1 [1] (iSeq (fCall F_stays_of (aCons (fVar 0) aNil))) (gN 0) [] (fIf (tE (fBin oIsN (fVar 0) (fC .non))) (fVar 1) (fVar 0)))) [some w.enc, some (.int v)] h = .rt (encI l) (h ++ [.lst (w.stays.map encO)]) := by
    exact ev_ret (ev_tupL (ev_comp (ev_iseq (ev_call (ev_cons rfl rfl) so) List.getElem?_concat_length) c2))
  have st : ([w.enc, D.int v].map some ++ List.replicate (2 - [w.enc, D.int v].length) none : Sd) = [some w.enc, some (.int v)] := rfl
  unfold F_stand_of_all mkFn runB
  rw [if_pos (by rfl), st, s2]
  exact letGo_pure (pure_encI _)
theorem least_stops (W : w.Ok n) (S : StayOk w) (M : More w w n) : ∃ t, t ≤ n ∧ hist w n (leastS w.stays) (t + 1) = hist w n (leastS w.stays) t := by
  have F := least_fit W S
  exact rise_stops W S M F (least_le (turn_fits W S F))
theorem great_stops (W : w.Ok n) (S : StayOk w) (M : More w w n) : ∃ t, t ≤ n ∧ hist w n (greatS w.stays) (t + 1) = hist w n (greatS w.stays) t := by
  have F := great_fit W S
  exact fall_stops W S M F (great_le W (turn_fits W S F))
theorem least_rest_ok (W : w.Ok n) (S : StayOk w) {t : Nat} (ht : t ≤ 1000) (e : hist w n (leastS w.stays) (t + 1) = hist w n (leastS w.stays) t) (h : Hd) : F_least_rest [w.enc] h = .ok (encI (hist w n (leastS w.stays) t)) h := by
  have q1 := stand_all_ok W S (v := 0) (.inl rfl) h
  rw [if_pos rfl] at q1
  have q2 := end_of_ok W S (least_fit W S) e (Nat.le_trans ht (by decide)) h
  exact (fn_rt rfl rfl (ev_ret (ev_call (ev_cons rfl (ev_cons (ev_call (ev_2 rfl rfl) q1) rfl)) q2))).trans letGo_self
theorem great_rest_ok (W : w.Ok n) (S : StayOk w) {t : Nat} (ht : t ≤ 1000) (e : hist w n (greatS w.stays) (t + 1) = hist w n (greatS w.stays) t) (h : Hd) : F_greatest_rest [w.enc] h = .ok (encI (hist w n (greatS w.stays) t)) h := by
  have q1 := stand_all_ok W S (v := 1) (.inr rfl) h
  rw [if_neg (by decide)] at q1
  have q2 := end_of_ok W S (great_fit W S) e (Nat.le_trans ht (by decide)) h
  exact (fn_rt rfl rfl (ev_ret (ev_call (ev_cons rfl (ev_cons (ev_call (ev_2 rfl rfl) q1) rfl)) q2))).trans letGo_self
theorem is_rest_ok (W : w.Ok n) (F : Fits w n s) (h : Hd) : F_is_rest [w.enc, encI s] h = .ok (.bl (decide (turnS w n s = s))) h := by
  have l : (turnS w n s).length = s.length := by rw [F.len]; simp [turnS]
  have q := oEq_enc l h
  exact (fn_rt rfl rfl ((sq_nx (ev_exp (ev_call (ev_2 rfl rfl) (check_ok W F h)))).trans (ev_ret (ev_bin (ev_call (ev_2 rfl rfl) (turn_at_ok W F h)) rfl q)))).trans letGo_self
theorem check_rests_ok {a b : List Int} (W : w.Ok n) (Fa : Fits w n a) (Fb : Fits w n b) (ra : turnS w n a = a) (rb : turnS w n b = b) (h : Hd) : F_check_rests [w.enc, encI a, encI b] h = .ok .non h := by
  have r1 := is_rest_ok W Fa h
  have r2 := is_rest_ok W Fb h
  rw [decide_eq_true ra] at r1
  rw [decide_eq_true rb] at r2
  exact (fn_nx rfl rfl ((sq_nx (ev_exp (ev_call (ev_2 rfl rfl) (check_ok W Fa h)))).trans ((sq_nx (ev_exp (ev_call (ev_2 rfl rfl) (check_ok W Fb h)))).trans (ev_f (ev_or (ev_not (b := true) (ev_b (ev_call (ev_2 rfl rfl) r1))) (ev_not (b := true) (ev_b (ev_call (ev_2 rfl rfl) r2)))))))).trans letGo_self
end
noncomputable def maxS (a b : List Int) : List Int := (a.zip b).map fun p => if p.2 > p.1 then p.2 else p.1
noncomputable def minS (a b : List Int) : List Int := (a.zip b).map fun p => if p.2 < p.1 then p.2 else p.1
theorem zip_comp {g : Int → Int → Int} {E : EF} (hE : ∀ (x y : Int) (h : Hd), E [some (.int x), some (.int y)] h = .ok (.int (g x y)) h) (a b : List Int) (u v : Option D) (h : Hd) : compL none (((a.map D.int).zip (b.map D.int)).map fun p => D.tup [p.1, p.2]) (gT [0, 1]) [] E (((a.map D.int).zip (b.map D.int)).map fun p => D.tup [p.1, p.2]) [u, v] h = .ok (((a.zip b).map fun p => g p.1 p.2).map .int) h := by
  have e : ((a.map D.int).zip (b.map D.int)).map (fun p => D.tup [p.1, p.2]) = (a.zip b).map fun p => D.tup [.int p.1, .int p.2] := by
    rw [List.zip_map, List.map_map]; rfl
  rw [e]
  have := compL_pure (g := none) (all := (a.zip b).map fun p => D.tup [.int p.1, .int p.2]) (tg := gT [0, 1]) (cs := []) (e := E) (h := h) (I := fun σ => ∃ a b, σ = [a, b]) (fun _ => true) (fun d => match d with | .tup [.int x, .int y] => .int (g x y) | _ => .non) trivial
    (xs := (a.zip b).map fun p => D.tup [.int p.1, .int p.2]) (σ := [u, v]) (by
      rintro x hx σ ⟨c, d, rfl⟩
      obtain ⟨p, hp, rfl⟩ := List.mem_map.mp hx
      exact ⟨_, rfl, ⟨_, _, rfl⟩, rfl, fun _ => hE _ _ _⟩) ⟨_, _, rfl⟩
  rw [this, List.filter_eq_self.mpr (by simp), List.map_map, List.map_map]
  rfl
theorem zip_at {g : Int → Int → Int} {a b : List Int} {n : Nat} (la : a.length = n) (lb : b.length = n) {i : Nat} (hi : i < n) : ((a.zip b).map fun p => g p.1 p.2)[i]? = some (g (a.getD i 0) (b.getD i 0)) := by
  have h1 : i < a.length := la ▸ hi
  have h2 : i < b.length := lb ▸ hi
  have hz : i < (a.zip b).length := by rw [List.length_zip]; exact Nat.lt_min.mpr ⟨h1, h2⟩
  rw [List.getElem?_map, List.getElem?_eq_getElem hz]
  simp [List.getD, h1, h2]
section
variable {w : Web} {n : Nat} {a b : List Int}
theorem max_at (la : a.length = n) (lb : b.length = n) (i : Nat) : (maxS a b).getD i 0 = if b.getD i 0 > a.getD i 0 then b.getD i 0 else a.getD i 0 := by
  by_cases hi : i < n
  · rw [List.getD, maxS, zip_at (g := fun x y => if y > x then y else x) la lb hi]; rfl
  · have : ¬ i < (maxS a b).length := by simp [maxS]; omega
    simp [List.getD, List.getElem?_eq_none (show a.length ≤ i by omega), List.getElem?_eq_none (show b.length ≤ i by omega), List.getElem?_eq_none (show (maxS a b).length ≤ i by omega)]
theorem min_at (la : a.length = n) (lb : b.length = n) (i : Nat) : (minS a b).getD i 0 = if b.getD i 0 < a.getD i 0 then b.getD i 0 else a.getD i 0 := by
  by_cases hi : i < n
  · rw [List.getD, minS, zip_at (g := fun x y => if y < x then y else x) la lb hi]; rfl
  · have : ¬ i < (minS a b).length := by simp [minS]; omega
    simp [List.getD, List.getElem?_eq_none (show a.length ≤ i by omega), List.getElem?_eq_none (show b.length ≤ i by omega), List.getElem?_eq_none (show (minS a b).length ≤ i by omega)]
theorem fits_of (W : w.Ok n) {c : List Int} (lc : c.length = n) (B : BitS c) (st : ∀ (i : Nat) (x : Int), w.stays[i]? = some (some x) → c.getD i 0 = x) : Fits w n c := by
  refine ⟨lc, fun x hx => ?_, fun i x e => ?_⟩
  · obtain ⟨i, hi⟩ := List.mem_iff_getElem?.mp hx
    have := B i
    simpa [List.getD, hi] using this
  · have hi : i < c.length := by rw [lc, ← W.s]; exact (List.getElem?_eq_some_iff.mp e).1
    have := st i x e
    simp only [List.getD, List.getElem?_eq_getElem hi, Option.getD_some] at this
    rw [List.getElem?_eq_getElem hi, this]
theorem fit_at (F : Fits w n a) {i : Nat} {x : Int} (e : w.stays[i]? = some (some x)) : a.getD i 0 = x := by
  have := F.st i x e
  simp [List.getD, this]
theorem max_fits (W : w.Ok n) (Fa : Fits w n a) (Fb : Fits w n b) : Fits w n (maxS a b) := by
  refine fits_of W (by simp [maxS]; have := Fa.len; have := Fb.len; omega) (fun i => ?_) fun i x e => ?_
  · rw [max_at Fa.len Fb.len]
    have := Fa.bits i; have := Fb.bits i
    split <;> assumption
  · rw [max_at Fa.len Fb.len, fit_at Fa e, fit_at Fb e]; simp
theorem min_fits (W : w.Ok n) (Fa : Fits w n a) (Fb : Fits w n b) : Fits w n (minS a b) := by
  refine fits_of W (by simp [minS]; have := Fa.len; have := Fb.len; omega) (fun i => ?_) fun i x e => ?_
  · rw [min_at Fa.len Fb.len]
    have := Fa.bits i; have := Fb.bits i
    split <;> assumption
  · rw [min_at Fa.len Fb.len, fit_at Fa e, fit_at Fb e]; simp
theorem le_max (Fa : Fits w n a) (Fb : Fits w n b) : LeS a (maxS a b) ∧ LeS b (maxS a b) := ⟨fun i => by rw [max_at Fa.len Fb.len]; split <;> omega, fun i => by rw [max_at Fa.len Fb.len]; split <;> omega⟩
theorem min_le (Fa : Fits w n a) (Fb : Fits w n b) : LeS (minS a b) a ∧ LeS (minS a b) b := ⟨fun i => by rw [min_at Fa.len Fb.len]; split <;> omega, fun i => by rw [min_at Fa.len Fb.len]; split <;> omega⟩
theorem max_lub {c : List Int} (Fa : Fits w n a) (Fb : Fits w n b) (h1 : LeS a c) (h2 : LeS b c) : LeS (maxS a b) c := fun i => by
  rw [max_at Fa.len Fb.len]
  have := h1 i; have := h2 i
  split <;> omega
theorem min_glb {c : List Int} (Fa : Fits w n a) (Fb : Fits w n b) (h1 : LeS c a) (h2 : LeS c b) : LeS c (minS a b) := fun i => by
  rw [min_at Fa.len Fb.len]
  have := h1 i; have := h2 i
  split <;> omega
theorem max_stops (W : w.Ok n) (S : StayOk w) (M : More w w n) (Fa : Fits w n a) (Fb : Fits w n b) (ra : turnS w n a = a) (rb : turnS w n b = b) : ∃ t, t ≤ n ∧ hist w n (maxS a b) (t + 1) = hist w n (maxS a b) t := by
  have Fm := max_fits W Fa Fb
  have l := le_max Fa Fb
  refine rise_stops W S M Fm (max_lub Fa Fb ?_ ?_)
  · have := M.go _ _ Fa Fm l.1; rwa [ra] at this
  · have := M.go _ _ Fb Fm l.2; rwa [rb] at this
theorem min_stops (W : w.Ok n) (S : StayOk w) (M : More w w n) (Fa : Fits w n a) (Fb : Fits w n b) (ra : turnS w n a = a) (rb : turnS w n b = b) : ∃ t, t ≤ n ∧ hist w n (minS a b) (t + 1) = hist w n (minS a b) t := by
  have Fm := min_fits W Fa Fb
  have l := min_le Fa Fb
  refine fall_stops W S M Fm (min_glb Fa Fb ?_ ?_)
  · have := M.go _ _ Fm Fa l.1; rwa [ra] at this
  · have := M.go _ _ Fm Fb l.2; rwa [rb] at this
theorem joined_ok (W : w.Ok n) (S : StayOk w) (Fa : Fits w n a) (Fb : Fits w n b) (ra : turnS w n a = a) (rb : turnS w n b = b) {t : Nat} (ht : t ≤ 1000) (e : hist w n (maxS a b) (t + 1) = hist w n (maxS a b) t) (h : Hd) : F_joined [w.enc, encI a, encI b] h = .ok (encI (hist w n (maxS a b) t)) h := by
  have c := zip_comp (g := fun x y => if y > x then y else x) (E := fMax (fVar 0) (fVar 1)) (fun _ _ _ => rfl) a b none none h
  have q := end_of_ok W S (max_fits W Fa Fb) e (Nat.le_trans ht (by decide)) h
  have k := check_rests_ok W Fa Fb ra rb h
  have s1 : sExp (fCall F_check_rests (aCons (fVar 0) (aCons (fVar 1) (aCons (fVar 2) aNil)))) [some w.enc, some (encI a), some (encI b)] h = .nx [some w.enc, some (encI a), some (encI b)] h := ev_exp (ev_call (ev_cons rfl (ev_2 rfl rfl)) k)
  have tl : fTupL (lComp 2 [] (iZip (fVar 1) (fVar 2)) (gT [0, 1]) [] (fMax (fVar 0) (fVar 1))) [some w.enc, some (encI a), some (encI b)] h = .ok (encI (maxS a b)) h := by
    exact ev_tupL (ev_comp rfl c)
  have s2 : sRet (fCall F_end_of (aCons (fVar 0) (aCons (fTupL (lComp 2 [] (iZip (fVar 1) (fVar 2)) (gT [0, 1]) [] (fMax (fVar 0) (fVar 1)))) aNil))) [some w.enc, some (encI a), some (encI b)] h = .rt (encI (hist w n (maxS a b) t)) h := by
    exact ev_ret (ev_call (ev_cons rfl (ev_cons tl rfl)) q)
  have st : ([w.enc, encI a, encI b].map some ++ List.replicate (3 - [w.enc, encI a, encI b].length) none : Sd) = [some w.enc, some (encI a), some (encI b)] := rfl
  exact (fn_rt rfl st ((sq_nx s1).trans s2)).trans letGo_self
theorem met_ok (W : w.Ok n) (S : StayOk w) (Fa : Fits w n a) (Fb : Fits w n b) (ra : turnS w n a = a) (rb : turnS w n b = b) {t : Nat} (ht : t ≤ 1000) (e : hist w n (minS a b) (t + 1) = hist w n (minS a b) t) (h : Hd) : F_met [w.enc, encI a, encI b] h = .ok (encI (hist w n (minS a b) t)) h := by
  have c := zip_comp (g := fun x y => if y < x then y else x) (E := fMin (fVar 0) (fVar 1)) (fun _ _ _ => rfl) a b none none h
  have q := end_of_ok W S (min_fits W Fa Fb) e (Nat.le_trans ht (by decide)) h
  have k := check_rests_ok W Fa Fb ra rb h
  have s1 : sExp (fCall F_check_rests (aCons (fVar 0) (aCons (fVar 1) (aCons (fVar 2) aNil)))) [some w.enc, some (encI a), some (encI b)] h = .nx [some w.enc, some (encI a), some (encI b)] h := ev_exp (ev_call (ev_cons rfl (ev_2 rfl rfl)) k)
  have tl : fTupL (lComp 2 [] (iZip (fVar 1) (fVar 2)) (gT [0, 1]) [] (fMin (fVar 0) (fVar 1))) [some w.enc, some (encI a), some (encI b)] h = .ok (encI (minS a b)) h := by
    exact ev_tupL (ev_comp rfl c)
  have s2 : sRet (fCall F_end_of (aCons (fVar 0) (aCons (fTupL (lComp 2 [] (iZip (fVar 1) (fVar 2)) (gT [0, 1]) [] (fMin (fVar 0) (fVar 1)))) aNil))) [some w.enc, some (encI a), some (encI b)] h = .rt (encI (hist w n (minS a b) t)) h := by
    exact ev_ret (ev_call (ev_cons rfl (ev_cons tl rfl)) q)
  have st : ([w.enc, encI a, encI b].map some ++ List.replicate (3 - [w.enc, encI a, encI b].length) none : Sd) = [some w.enc, some (encI a), some (encI b)] := rfl
  exact (fn_rt rfl st ((sq_nx s1).trans s2)).trans letGo_self
end
end Fm
set_option linter.all false
namespace Fm
noncomputable def F_l_cell : Fn := mkFn 2 2 (sSeq (sIf (tE (fBin oLt (fVar 1) (fLen (lOf (fVar 0))))) (sRet (fAt (fVar 0) (fVar 1))) sNil)
    (sRet (fBin oAdd (fBin oMul (fBin oMul (fC (.int 71)) (fVar 1)) (fVar 1)) (fBin oMul (fC (.int 7)) (fVar 1)))))
noncomputable abbrev B0_l_row : SF := (sIf (tE (fBin oEq (fBin oMod (fVar 1) (fC (.int 2))) (fC (.int 1)))) (sSeq (sSet (gN 5) (fBin oMod (fBin oAdd (fBin oAdd (fBin oAdd (fBin oMul (fVar 5) (fVar 5)) (fBin oMul (fC (.int 69621)) (fVar 5))) (fBin oMul (fC (.int 11)) (fVar 6))) (fC (.int 5))) (fC (.int 2147483549))))
    (sExp (fApp (fVar 4) (fBin oMod (fBin oDiv (fVar 5) (fC (.int 7))) (fVar 3))))) (sSeq (sExp (fApp (fVar 4) (fBin oMod (fVar 5) (fVar 3))))
    (sSet (gN 5) (fBin oDiv (fVar 5) (fVar 3)))))
noncomputable def F_l_row : Fn := mkFn 4 7 (sSeq (sSet (gN 4) (fNew aNil))
    (sSeq (sSet (gN 5) (fVar 0))
    (sSeq (sIf (tE (fBin oEq (fBin oMod (fVar 1) (fC (.int 2))) (fC (.int 1)))) (sSet (gN 5) (fBin oMod (fBin oMul (fBin oMod (fVar 0) (fC (.int 2147483629))) (fC (.int 48271))) (fC (.int 2147483647)))) sNil)
    (sSeq (sFor (iRange (fVar 2)) (gN 6) B0_l_row)
    (sRet (fVar 4))))))
noncomputable abbrev B0_l_model : SF := (sPut (fVar 9) (fVar 6) (fIx (aCons (fBin oSub (fAt (fVar 10) (fVar 6)) (fC (.int 1000))) (aCons (fBin oSub (fBin oAdd (fAt (fVar 9) (fVar 6)) (fBin oMod (fAt (fVar 10) (fVar 6)) (fC (.int 7)))) (fC (.int 3))) aNil)) (fBin oMod (fBin oDiv (fVar 2) (fC (.int 256))) (fC (.int 2)))))
noncomputable abbrev B2_l_model : SF := (sSeq (sSet (gN 8) (fMax (fC (.int 0)) (fBin oSub (fAt (fVar 5) (fBin oAdd (fBin oMul (fVar 6) (fVar 3)) (fVar 7))) (fC (.int 402)))))
    (sSeq (sIf (tE (fBin oEq (fBin oMod (fBin oDiv (fVar 2) (fC (.int 64))) (fC (.int 2))) (fC (.int 1)))) (sSet (gN 8) (fIx (aCons (fC (.int 0)) (aCons (fC (.int 0)) (aCons (fC (.int 1)) (aCons (fC (.int 1)) (aCons (fC (.int 2)) (aCons (fC (.int 3)) (aCons (fC (.int 1)) aNil))))))) (fBin oMod (fAt (fVar 5) (fBin oAdd (fBin oMul (fVar 6) (fVar 3)) (fVar 7))) (fC (.int 7))))) sNil)
    (sSeq (sPut (fAt (fVar 4) (fVar 6)) (fVar 7) (fVar 8))
    (sPut (fAt (fVar 4) (fVar 7)) (fVar 6) (fVar 8)))))
noncomputable abbrev B1_l_model : SF := (sFor (iRange (fVar 6)) (gN 7) B2_l_model)
noncomputable def F_l_model : Fn := mkFn 2 12 (sSeq (sSet (gN 2) (fCall F_l_cell (aCons (fVar 0) (aCons (fC (.int 0)) aNil))))
    (sSeq (sSet (gN 3) (fBin oAdd (fC (.int 1)) (fBin oMod (fBin oDiv (fVar 2) (fC (.int 2))) (fVar 1))))
    (sSeq (sSet (gN 4) (fNew (lComp 1 [3] (iRange (fVar 3)) (gN 0) [] (fNew (lRep (aCons (fC (.int 0)) aNil) (fVar 1))))))
    (sSeq (sSet (gN 5) (fCall F_l_row (aCons (fCall F_l_cell (aCons (fVar 0) (aCons (fC (.int 1)) aNil))) (aCons (fVar 2) (aCons (fBin oMul (fVar 3) (fVar 3)) (aCons (fC (.int 803)) aNil))))))
    (sSeq (sFor (iRange (fVar 3)) (gN 6) B1_l_model)
    (sSeq (sSet (gN 9) (fNew (lComp 1 [] (iSeq (fVar 4)) (gN 0) [] (fSum (lOf (fVar 0))))))
    (sSeq (sIf (tE (fBin oEq (fBin oMod (fBin oDiv (fVar 2) (fC (.int 128))) (fC (.int 2))) (fC (.int 1)))) (sSeq (sSet (gN 10) (fCall F_l_row (aCons (fCall F_l_cell (aCons (fVar 0) (aCons (fC (.int 2)) aNil))) (aCons (fVar 2) (aCons (fVar 3) (aCons (fC (.int 2001)) aNil))))))
    (sFor (iRange (fVar 3)) (gN 6) B0_l_model)) sNil)
    (sSeq (sSet (gN 11) (fNew (lRep (aCons (fC .non) aNil) (fVar 3))))
    (sSeq (sIf (tE (fBin oEq (fBin oMod (fBin oDiv (fVar 2) (fC (.int 512))) (fC (.int 2))) (fC (.int 1)))) (sSeq (sSet (gN 5) (fCall F_l_row (aCons (fCall F_l_cell (aCons (fVar 0) (aCons (fC (.int 3)) aNil))) (aCons (fVar 2) (aCons (fVar 3) (aCons (fC (.int 7)) aNil))))))
    (sSet (gN 11) (fNew (lComp 1 [] (iSeq (fVar 5)) (gN 0) [] (fIx (aCons (fC (.int 0)) (aCons (fC (.int 1)) (aCons (fC .non) (aCons (fC .non) (aCons (fC .non) (aCons (fC .non) (aCons (fC .non) aNil))))))) (fVar 0)))))) sNil)
    (sRet (fTup (aCons (fVar 4) (aCons (fVar 9) (aCons (fVar 11) aNil))))))))))))))
noncomputable abbrev B1_l_lines : SF := (sIf (tE (fBin oGt (fAt (fAt (fAt (fVar 0) (fC (.int 0))) (fVar 2)) (fVar 3)) (fC (.int 0)))) (sExp (fApp (fVar 1) (fTup (aCons (fVar 3) (aCons (fVar 2) (aCons (fAt (fAt (fAt (fVar 0) (fC (.int 0))) (fVar 2)) (fVar 3)) aNil)))))) sNil)
noncomputable abbrev B0_l_lines : SF := (sFor (iRange (fVar 2)) (gN 3) B1_l_lines)
noncomputable def F_l_lines : Fn := mkFn 1 4 (sSeq (sSet (gN 1) (fNew aNil))
    (sSeq (sFor (iRange (fLen (lOf (fAt (fVar 0) (fC (.int 1)))))) (gN 2) B0_l_lines)
    (sRet (fVar 1))))
noncomputable abbrev B0_l_turn : SF := (sSeq (sSet (gN 7) (fBin oMul (fC (.int 2)) (fSum (lComp 1 [1, 2, 6] (iRange (fLen (lOf (fVar 3)))) (gN 0) [] (fBin oMul (fAt (fAt (fVar 2) (fVar 3)) (fVar 0)) (fAt (fVar 1) (fVar 0)))))))
    (sSeq (sSet (gN 8) (fAt (fVar 1) (fVar 6)))
    (sSeq (sIf (tE (fBin oGt (fVar 7) (fAt (fVar 3) (fVar 6)))) (sSet (gN 8) (fC (.int 1))) sNil)
    (sSeq (sIf (tE (fBin oLt (fVar 7) (fAt (fVar 3) (fVar 6)))) (sSet (gN 8) (fC (.int 0))) sNil)
    (sSeq (sIf (tE (fBin oIsNotN (fAt (fVar 4) (fVar 6)) (fC .non))) (sSet (gN 8) (fAt (fVar 4) (fVar 6))) sNil)
    (sExp (fApp (fVar 5) (fVar 8))))))))
noncomputable def F_l_turn : Fn := mkFn 2 9 (sSeq (sSet (gT [2, 3, 4]) (fVar 0))
    (sSeq (sSet (gN 5) (fNew aNil))
    (sSeq (sFor (iRange (fLen (lOf (fVar 3)))) (gN 6) B0_l_turn)
    (sRet (fTupL (lOf (fVar 5)))))))
noncomputable abbrev B0_l_fitting : SF := (sSeq (sExp (fApp (fVar 2) (fAt (fVar 1) (fVar 3))))
    (sIf (tE (fBin oIsNotN (fAt (fAt (fVar 0) (fC (.int 2))) (fVar 3)) (fC .non))) (sPut (fVar 2) (fVar 3) (fAt (fAt (fVar 0) (fC (.int 2))) (fVar 3))) sNil))
noncomputable def F_l_fitting : Fn := mkFn 2 4 (sSeq (sSet (gN 2) (fNew aNil))
    (sSeq (sFor (iRange (fLen (lOf (fVar 1)))) (gN 3) B0_l_fitting)
    (sRet (fTupL (lOf (fVar 2))))))
noncomputable def F_l_made : Fn := mkFn 1 1 (sRet (fCall F_web_of (aCons (fLen (lOf (fAt (fVar 0) (fC (.int 1))))) (aCons (fCall F_l_lines (aCons (fVar 0) aNil)) (aCons (fNew (lOf (fAt (fVar 0) (fC (.int 1))))) (aCons (fNew (lOf (fAt (fVar 0) (fC (.int 2))))) aNil))))))
noncomputable def F_l_below : Fn := mkFn 2 2 (sRet (fBin oEq (fNew (lComp 1 [0, 1] (iRange (fLen (lOf (fVar 0)))) (gN 0) [(tE (fBin oGt (fAt (fVar 1) (fVar 0)) (fAt (fVar 2) (fVar 0))))] (fVar 0))) (fNew aNil)))
end Fm
set_option linter.all false
namespace Fm
theorem if_t {t : TF} {a b : SF} {σ : Sd} {h h' : Hd} (e : t σ h = .ok true h') : sIf t a b σ h = a σ h' := by simp [sIf, e]
theorem if_f {t : TF} {a b : SF} {σ : Sd} {h h' : Hd} (e : t σ h = .ok false h') : sIf t a b σ h = b σ h' := by simp [sIf, e]
theorem yc1 (ns : List Int) (k : Nat) (e : k < ns.length) (h : Hd) : F_l_cell [.lit (ns.map .int), .int k] h = .ok (.int ns[k]) h := by
  have pk := at_map' (f := D.int) e
  simp [F_l_cell, mkFn, runB, e, pk]
theorem mulS {x y : Int} (e : (sml x || sml y) = true) (h : Hd) : oMul (.int x) (.int y) h = .ok (.int (x * y)) h := by
  simp only [oMul, oIc, e, if_true]
theorem yc2 (ns : List Int) (K : Int) (e : ¬ K < (ns.length : Int)) (s3 : sml K = true) (h : Hd) : F_l_cell [.lit (ns.map .int), .int K] h = .ok (.int (71 * K * K + 7 * K)) h := by
  have m1 : ∀ h, oMul (.int 71) (.int K) h = .ok (.int (71 * K)) h := fun h => mulS (by rw [s3, Bool.or_true]) h
  have m2 : ∀ h, oMul (.int (71 * K)) (.int K) h = .ok (.int (71 * K * K)) h := fun h => mulS (by rw [s3, Bool.or_true]) h
  have m3 : ∀ h, oMul (.int 7) (.int K) h = .ok (.int (7 * K)) h := fun h => mulS (by rw [s3, Bool.or_true]) h
  generalize 71 * K = a at m1 m2 ⊢
  generalize a * K = b at m2 ⊢
  generalize 7 * K = c at m3 ⊢
  simp [-oMul, F_l_cell, mkFn, runB, e, m1, m2, m3]
theorem ycell (ns : List Int) (k : Nat) (hk : k ≤ 63) : ∃ v, ∀ h, F_l_cell [.lit (ns.map .int), .int k] h = .ok (.int v) h := by
  by_cases e : k < ns.length
  · exact ⟨_, yc1 ns k e⟩
  · exact ⟨_, yc2 ns k (by omega) (sml_of' (by omega) (by omega))⟩
theorem yrow (c way base : Int) (m : Nat) (hm : m ≤ 1000) (b0 : 0 < base) (b1 : base < 2 ^ 250) (h : Hd) : ∃ l : List Int, F_l_row [.int c, .int way, .int m, .int base] h = .ok (.ref h.length) (h ++ [.lst (l.map .int)]) ∧ l.length = m ∧ ∀ x ∈ l, 0 ≤ x ∧ x < base := by
  obtain ⟨A, hA⟩ : ∃ A, A = h.length := ⟨_, rfl⟩
  obtain ⟨z0, hz0⟩ : ∃ z0 : Int, z0 = if way % 2 = 1 then c % 2147483629 * 48271 % 2147483647 else c := ⟨_, rfl⟩
  have zb : way % 2 = 1 → 0 ≤ z0 ∧ z0 < 4611686018427387904 := fun e => by
    rw [hz0, if_pos e]
    exact ⟨Int.emod_nonneg _ (by decide), Int.lt_trans (Int.emod_lt_of_pos _ (by decide)) (by decide)⟩
  obtain ⟨σ', h', k1, l, z, y, k2, k3, k4, k5, k6⟩ := forL_next (P := fun i σ h' => ∃ (l : List Int) (z : Int) (y : Option D), σ = [some (.int c), some (.int way), some (.int m), some (.int base), some (.ref A), some (.int z), y] ∧ h' = h ++ [.lst (l.map .int)] ∧ l.length = i ∧ (∀ x ∈ l, 0 ≤ x ∧ x < base) ∧ (way % 2 = 1 → 0 ≤ z ∧ z < 4611686018427387904)) (g := none) (k := 0)
      (all := (List.range m).map fun k : Nat => D.int k) (fun _ _ _ _ => trivial)
      (xs := (List.range m).map fun k : Nat => D.int k) (tg := gN 6) (σ := [some (.int c), some (.int way), some (.int m), some (.int base), some (.ref A), some (.int z0), none]) (h := h ++ [.lst []]) (b := B0_l_row) (by
      rintro i x σ h0 hx ⟨l, z, y, rfl, hh0, ll, bl, bz⟩
      obtain ⟨hi, rfl⟩ := range_at' hx
      rw [Nat.zero_add] at ll ⊢
      have gA : h0[A]? = some (.lst (l.map .int)) := by rw [hh0]; exact get_end hA _
      have lz : (l.map D.int).length < SZ := by rw [List.length_map, ll]; exact Nat.lt_trans hi (Nat.lt_of_le_of_lt hm (by decide))
      have st : ∀ v : Int, h0.set A (.lst (l.map .int ++ [.int v])) = h ++ [.lst ((l ++ [v]).map .int)] := fun v => by rw [hh0, set_end hA, List.map_append]; rfl
      have nb : ∀ q : Int, (0 ≤ q % base ∧ q % base < base) := fun q => ⟨Int.emod_nonneg q (Int.ne_of_gt b0), Int.emod_lt_of_pos q b0⟩
      by_cases e : way % 2 = 1
      · have bz' := bz e
        have sz : sml z = true := sml_of' bz'.1 bz'.2
        have s9 : sml 69621 = true := by decide
        have s11 : sml 11 = true := by decide
        obtain ⟨z', hz'⟩ : ∃ z', z' = (z * z + 69621 * z + 11 * i + 5) % 2147483549 := ⟨_, rfl⟩
        have c1 : 0 ≤ z' := by rw [hz']; exact Int.emod_nonneg _ (by decide)
        have c2 : z' < 2147483549 := by rw [hz']; exact Int.emod_lt_of_pos _ (by decide)
        refine ⟨_, rfl, [some (.int c), some (.int way), some (.int m), some (.int base), some (.ref A), some (.int z'), some (.int i)], _, ?_, l ++ [z' / 7 % base], z', _, rfl, rfl, by simp [ll], fun x hx => ?_, fun _ => ⟨c1, Int.lt_trans c2 (by decide)⟩⟩
        · rw [← st]
          have t1 : sSet (gN 5) (fBin oMod (fBin oAdd (fBin oAdd (fBin oAdd (fBin oMul (fVar 5) (fVar 5)) (fBin oMul (fC (.int 69621)) (fVar 5))) (fBin oMul (fC (.int 11)) (fVar 6))) (fC (.int 5))) (fC (.int 2147483549))) [some (.int c), some (.int way), some (.int m), some (.int base), some (.ref A), some (.int z), some (.int i)] h0 = .nx [some (.int c), some (.int way), some (.int m), some (.int base), some (.ref A), some (.int z'), some (.int i)] h0 := by
            rw [hz']; exact ev_set (ev_bin (ev_bin (ev_bin (ev_bin (ev_bin rfl rfl (ev_mul1 sz)) (ev_bin rfl rfl (ev_mul1 s9)) rfl) (ev_bin rfl rfl (ev_mul1 s11)) rfl) rfl rfl) rfl (ev_mod (by decide)))
          have tt : tE (fBin oEq (fBin oMod (fVar 1) (fC (.int 2))) (fC (.int 1))) [some (.int c), some (.int way), some (.int m), some (.int base), some (.ref A), some (.int z), some (.int i)] h0 = .ok true h0 := ev_b (ev_bin (ev_bin rfl rfl (ev_mod (by decide))) rfl (ev_eqt e))
          show sIf _ _ _ [some (.int c), some (.int way), some (.int m), some (.int base), some (.ref A), some (.int z), some (.int i)] h0 = _
          rw [if_t tt, seq_nx' t1]
          exact ev_exp (ev_app rfl gA (ev_bin (ev_bin rfl rfl (ev_div (by decide) (by decide))) rfl (ev_mod b0)) gA lz)
        · rcases List.mem_append.mp hx with hx | hx
          · exact bl x hx
          · simp at hx; subst hx; exact nb _
      · refine ⟨_, rfl, [some (.int c), some (.int way), some (.int m), some (.int base), some (.ref A), some (.int (z / base)), some (.int i)], _, ?_, l ++ [z % base], z / base, _, rfl, rfl, by simp [ll], fun x hx => ?_, fun q => absurd q e⟩
        · rw [← st]
          have tt : tE (fBin oEq (fBin oMod (fVar 1) (fC (.int 2))) (fC (.int 1))) [some (.int c), some (.int way), some (.int m), some (.int base), some (.ref A), some (.int z), some (.int i)] h0 = .ok false h0 := ev_b (ev_bin (ev_bin rfl rfl (ev_mod (by decide))) rfl (ev_eqf e))
          show sIf _ _ _ [some (.int c), some (.int way), some (.int m), some (.int base), some (.ref A), some (.int z), some (.int i)] h0 = _
          rw [if_f tt]
          exact (seq_nx' (ev_exp (ev_app rfl gA (ev_bin rfl rfl (ev_mod b0)) gA lz))).trans (ev_set (ev_bin rfl rfl (ev_div b0 b1)))
        · rcases List.mem_append.mp hx with hx | hx
          · exact bl x hx
          · simp at hx; subst hx; exact nb _) ⟨[], z0, none, rfl, rfl, rfl, by simp, zb⟩
  have e0 : 0 + ((List.range m).map fun k : Nat => D.int k).length = m := by simp
  rw [e0] at k4
  refine ⟨l, ?_, k4, k5⟩
  have s1 : sSet (gN 4) (fNew aNil) [some (.int c), some (.int way), some (.int m), some (.int base), none, none, none] h = .nx [some (.int c), some (.int way), some (.int m), some (.int base), some (.ref A), none, none] (h ++ [.lst []]) := ev_set (new_end hA rfl (Nat.zero_le _))
  have s2 : sSet (gN 5) (fVar 0) [some (.int c), some (.int way), some (.int m), some (.int base), some (.ref A), none, none] (h ++ [.lst []]) = .nx [some (.int c), some (.int way), some (.int m), some (.int base), some (.ref A), some (.int c), none] (h ++ [.lst []]) := rfl
  have s3 : sIf (tE (fBin oEq (fBin oMod (fVar 1) (fC (.int 2))) (fC (.int 1)))) (sSet (gN 5) (fBin oMod (fBin oMul (fBin oMod (fVar 0) (fC (.int 2147483629))) (fC (.int 48271))) (fC (.int 2147483647)))) sNil [some (.int c), some (.int way), some (.int m), some (.int base), some (.ref A), some (.int c), none] (h ++ [.lst []]) = .nx [some (.int c), some (.int way), some (.int m), some (.int base), some (.ref A), some (.int z0), none] (h ++ [.lst []]) := by
    have s48 : sml 48271 = true := by decide
    rw [hz0]
    by_cases e : way % 2 = 1
    · rw [if_pos e]; exact (ev_t (ev_b (ev_bin (ev_bin rfl rfl (ev_mod (by decide))) rfl (ev_eqt e)))).trans (ev_set (ev_bin (ev_bin (ev_bin rfl rfl (ev_mod (by decide))) rfl (ev_mul2 s48)) rfl (ev_mod (by decide))))
    · rw [if_neg e]; exact ev_f (ev_b (ev_bin (ev_bin rfl rfl (ev_mod (by decide))) rfl (ev_eqf e)))
  have s4 : sFor (iRange (fVar 2)) (gN 6) B0_l_row [some (.int c), some (.int way), some (.int m), some (.int base), some (.ref A), some (.int z0), none] (h ++ [.lst []]) = .nx [some (.int c), some (.int way), some (.int m), some (.int base), some (.ref A), some (.int z), y] (h ++ [.lst (l.map .int)]) := by
    rw [k2, k3] at k1
    exact ev_for (ev_range rfl hm) k1
  have s5 : sRet (fVar 4) [some (.int c), some (.int way), some (.int m), some (.int base), some (.ref A), some (.int z), y] (h ++ [.lst (l.map .int)]) = .rt (.ref A) (h ++ [.lst (l.map .int)]) := ev_ret rfl
  have st : ([D.int c, D.int way, D.int m, D.int base].map some ++ List.replicate (7 - [D.int c, D.int way, D.int m, D.int base].length) none : Sd) = [some (.int c), some (.int way), some (.int m), some (.int base), none, none, none] := rfl
  unfold F_l_row mkFn runB
  rw [if_pos (by rfl), st, seq_nx' s1, seq_nx' s2, seq_nx' s3, seq_nx' s4, s5, ← hA]
  exact letGo_ref'
end Fm
set_option linter.all false
namespace Fm
noncomputable def rowM (M : Nat → Nat → Int) (n i : Nat) : List Int := (List.range n).map (M i)
noncomputable def updM (M : Nat → Nat → Int) (a b : Nat) (v : Int) : Nat → Nat → Int := fun i j => if i = a ∧ j = b then v else M i j
structure MatH (A n : Nat) (M : Nat → Nat → Int) (h : Hd) : Prop where
  ro : ∀ i, i < n → h[A + i]? = some (.lst ((rowM M n i).map .int))
  ti : h[A + n]? = some (.lst ((List.range n).map fun i => .ref (A + i)))
structure MOk (M : Nat → Nat → Int) : Prop where
  sym : ∀ i j, M i j = M j i
  bd : ∀ i j, 0 ≤ M i j ∧ M i j ≤ 400
  no : ∀ i, M i i = 0
theorem rowM_upd (M : Nat → Nat → Int) (n a b : Nat) (v : Int) (i : Nat) : rowM (updM M a b v) n i = if i = a then (rowM M n a).set b v else rowM M n i := by
  by_cases e : i = a
  · subst e
    rw [if_pos rfl]
    apply List.ext_getElem?
    intro j
    by_cases hj : j < n
    · by_cases ej : j = b
      · subst ej
        rw [List.getElem?_set_self (by simp [rowM, hj])]
        simp [rowM, updM, hj]
      · rw [List.getElem?_set_ne (by omega)]
        simp [rowM, updM, hj, ej]
    · rw [List.getElem?_eq_none (by simp [rowM]; omega), List.getElem?_eq_none (by simp [rowM]; omega)]
  · rw [if_neg e]
    apply List.map_congr_left
    intro j _
    simp [updM, e]
theorem MatH.put {A n : Nat} {M : Nat → Nat → Int} {h : Hd} (m : MatH A n M h) {a b : Nat} (ha : a < n) (v : Int) : MatH A n (updM M a b v) (h.set (A + a) (.lst (((rowM M n a).map .int).set b (.int v)))) where
  ro := fun i hi => by
    rw [rowM_upd]
    by_cases e : i = a
    · subst e
      rw [if_pos rfl, List.getElem?_set_self (List.getElem?_eq_some_iff.mp (m.ro i hi)).1, List.map_set]
    · rw [if_neg e, List.getElem?_set_ne (fun z => e (Nat.add_left_cancel z).symm)]; exact m.ro i hi
  ti := by rw [List.getElem?_set_ne (fun z => Nat.ne_of_lt ha (Nat.add_left_cancel z))]; exact m.ti
theorem MatH.more {A n : Nat} {M : Nat → Nat → Int} {h : Hd} (m : MatH A n M h) (g : Hd) : MatH A n M (h ++ g) := by
  have k : ∀ {i : Nat} {x : Cell}, h[i]? = some x → (h ++ g)[i]? = some x := fun {i x} e => by
    rw [List.getElem?_append_left (List.getElem?_eq_some_iff.mp e).1]; exact e
  exact ⟨fun i hi => k (m.ro i hi), k m.ti⟩
theorem MatH.set {A n : Nat} {M : Nat → Nat → Int} {h : Hd} (m : MatH A n M h) {k : Nat} (hk : A + n < k) (c : Cell) : MatH A n M (h.set k c) :=
  ⟨fun i hi => by rw [List.getElem?_set_ne (by omega)]; exact m.ro i hi, by rw [List.getElem?_set_ne (by omega)]; exact m.ti⟩
theorem MOk.put {M : Nat → Nat → Int} (o : MOk M) {a b : Nat} (ne : a ≠ b) {v : Int} (h0 : 0 ≤ v) (h1 : v ≤ 400) : MOk (updM (updM M a b v) b a v) where
  sym := fun i j => by
    simp only [updM]
    by_cases q : i = b ∧ j = a
    · rw [if_pos q]
      by_cases r : j = b ∧ i = a
      · rw [if_pos r]
      · rw [if_neg r, if_pos ⟨q.2, q.1⟩]
    · rw [if_neg q]
      by_cases p : i = a ∧ j = b
      · rw [if_pos p, if_pos ⟨p.2, p.1⟩]
      · rw [if_neg p, if_neg fun z => p ⟨z.2, z.1⟩, if_neg fun z => q ⟨z.2, z.1⟩]; exact o.sym i j
  bd := fun i j => by
    simp only [updM]
    split
    · exact ⟨h0, h1⟩
    · split
      · exact ⟨h0, h1⟩
      · exact o.bd i j
  no := fun i => by
    simp only [updM]
    rw [if_neg fun z => ne (z.2.symm.trans z.1), if_neg fun z => ne (z.1.symm.trans z.2)]
    exact o.no i
theorem mx_y {t : Int} (h : 0 ≤ t ∧ t < 803) : 0 ≤ (if t - 402 > 0 then t - 402 else 0) ∧ (if t - 402 > 0 then t - 402 else 0) ≤ 400 := by split <;> omega
theorem row_at {M : Nat → Nat → Int} {n i j : Nat} (hj : j < n) : atI ((rowM M n i).map D.int) (j : Int) = some (.int (M i j)) := by
  rw [at_map' (by simp [rowM, hj])]; simp [rowM]
theorem ti_at {A n i : Nat} (hi : i < n) : atI ((List.range n).map fun i => D.ref (A + i)) (i : Int) = some (.ref (A + i)) := by
  refine atI_nat ?_
  simp [hi]
theorem mul63 {x0 x1 x2 x4 x5 : Option D} {r : Sd} {N O : Int} (e : (sml O || sml N) = true) (h : Hd) : fBin oMul (fVar 6) (fVar 3) (x0 :: x1 :: x2 :: some (.int N) :: x4 :: x5 :: some (.int O) :: r) h = .ok (.int (O * N)) h := by
  rw [show fBin oMul (fVar 6) (fVar 3) (x0 :: x1 :: x2 :: some (.int N) :: x4 :: x5 :: some (.int O) :: r) h = oMul (.int O) (.int N) h from rfl]
  exact mulS e h
theorem q1 {tk n one i : Nat} {S0 p1 : D} {way t q : Int} {td : List D} {c b : Option D} {h0 : Hd} {E : EF} (pr : E [some S0, some p1, some (.int way), some (.int n), c, some (.ref tk), some (.int one), some (.int i), b, none, none, none] h0 = .ok (.int q) h0) (t1 : h0[tk]? = some (.lst td)) (at1 : atI td (q + i) = some (.int t)) : sSet (gN 8) (fMax (fC (.int 0)) (fBin oSub (fAt (fVar 5) (fBin oAdd E (fVar 7))) (fC (.int 402)))) [some S0, some p1, some (.int way), some (.int n), c, some (.ref tk), some (.int one), some (.int i), b, none, none, none] h0 = .nx [some S0, some p1, some (.int way), some (.int n), c, some (.ref tk), some (.int one), some (.int i), some (.int (if t - 402 > 0 then t - 402 else 0)), none, none, none] h0 := by
  exact ev_set (ev_max rfl (ev_bin (ev_at rfl (ev_bin pr rfl rfl) (ev_seq t1) at1) rfl rfl))
theorem q2 {tk n one i : Nat} {S0 p1 : D} {way t y q v0 : Int} {td : List D} {c : Option D} {h0 : Hd} {E : EF} (pr : E [some S0, some p1, some (.int way), some (.int n), c, some (.ref tk), some (.int one), some (.int i), some (.int v0), none, none, none] h0 = .ok (.int q) h0) (t1 : h0[tk]? = some (.lst td)) (at1 : atI td (q + i) = some (.int t)) (e : way / 64 % 2 = 1) (py : atI [D.int 0, .int 0, .int 1, .int 1, .int 2, .int 3, .int 1] (t % 7) = some (.int y)) : sIf (tE (fBin oEq (fBin oMod (fBin oDiv (fVar 2) (fC (.int 64))) (fC (.int 2))) (fC (.int 1)))) (sSet (gN 8) (fIx (aCons (fC (.int 0)) (aCons (fC (.int 0)) (aCons (fC (.int 1)) (aCons (fC (.int 1)) (aCons (fC (.int 2)) (aCons (fC (.int 3)) (aCons (fC (.int 1)) aNil))))))) (fBin oMod (fAt (fVar 5) (fBin oAdd E (fVar 7))) (fC (.int 7))))) sNil [some S0, some p1, some (.int way), some (.int n), c, some (.ref tk), some (.int one), some (.int i), some (.int v0), none, none, none] h0 = .nx [some S0, some p1, some (.int way), some (.int n), c, some (.ref tk), some (.int one), some (.int i), some (.int y), none, none, none] h0 := by
  exact (ev_t (ev_b (ev_bin (ev_bin (ev_bin rfl rfl (ev_div (by decide) (by decide))) rfl (ev_mod (by decide))) rfl (ev_eqt e)))).trans (ev_set (ev_ix (ev_cons rfl (ev_cons rfl (ev_cons rfl (ev_cons rfl (ev_cons rfl (ev_2 rfl rfl)))))) (ev_bin (ev_at rfl (ev_bin pr rfl rfl) (ev_seq t1) at1) rfl (ev_mod (by decide))) py))
theorem q3 {tk n one i : Nat} {S0 p1 : D} {way v0 : Int} {c : Option D} {h0 : Hd} {B : SF} (e : ¬ way / 64 % 2 = 1) : sIf (tE (fBin oEq (fBin oMod (fBin oDiv (fVar 2) (fC (.int 64))) (fC (.int 2))) (fC (.int 1)))) B sNil [some S0, some p1, some (.int way), some (.int n), c, some (.ref tk), some (.int one), some (.int i), some (.int v0), none, none, none] h0 = .nx [some S0, some p1, some (.int way), some (.int n), c, some (.ref tk), some (.int one), some (.int i), some (.int v0), none, none, none] h0 := by
  exact ev_f (ev_b (ev_bin (ev_bin (ev_bin rfl rfl (ev_div (by decide) (by decide))) rfl (ev_mod (by decide))) rfl (ev_eqf e)))
theorem inner_y {A n one tk : Nat} {way : Int} {td : List Int} (h1 : one < n) (hn : n ≤ 30) (tl : td.length = n * n) (tb : ∀ x ∈ td, 0 ≤ x ∧ x < 803) (hA : A + n < tk) {M : Nat → Nat → Int} (O : MOk M) {h : Hd} (m : MatH A n M h) (ht : h[tk]? = some (.lst (td.map .int))) {S0 p1 : D} {a b : Option D} {L : Nat} (hL : h.length = L) :
    ∃ M' h' a' b', forL none ((List.range one).map fun k : Nat => D.int k) (gN 7) B2_l_model ((List.range one).map fun k : Nat => D.int k) [some S0, some p1, some (.int way), some (.int n), some (.ref (A + n)), some (.ref tk), some (.int one), a, b, none, none, none] h
      = .nx [some S0, some p1, some (.int way), some (.int n), some (.ref (A + n)), some (.ref tk), some (.int one), a', b', none, none, none] h' ∧ MOk M' ∧ MatH A n M' h' ∧ h'[tk]? = some (.lst (td.map .int)) ∧ h'.length = L := by
  obtain ⟨σ', h', k1, M', a', b', k2, k3, k4, k5, k6⟩ := forL_next (P := fun i σ h' => ∃ (M' : Nat → Nat → Int) (a b : Option D), σ = [some S0, some p1, some (.int way), some (.int n), some (.ref (A + n)), some (.ref tk), some (.int one), a, b, none, none, none] ∧ MOk M' ∧ MatH A n M' h' ∧ h'[tk]? = some (.lst (td.map .int)) ∧ h'.length = L) (g := none) (k := 0)
      (all := (List.range one).map fun k : Nat => D.int k) (fun _ _ _ _ => trivial)
      (xs := (List.range one).map fun k : Nat => D.int k) (tg := gN 7) (σ := [some S0, some p1, some (.int way), some (.int n), some (.ref (A + n)), some (.ref tk), some (.int one), a, b, none, none, none]) (h := h) (b := B2_l_model) (by
      rintro i x σ h0 hx ⟨M1, a, b, rfl, O1, m1, t1, l1⟩
      obtain ⟨hi, rfl⟩ := range_at' hx
      have hin : i < n := Nat.lt_trans hi h1
      have lt : one * n + i < td.length := by
        rw [tl]
        exact Nat.lt_of_lt_of_le (Nat.add_lt_add_left hin _) (by rw [← Nat.succ_mul]; exact Nat.mul_le_mul_right n h1)
      have at1 : atI (td.map D.int) ((one : Int) * n + i) = some (.int td[one * n + i]) := by
        have := at_map' (f := D.int) lt
        rw [show (one : Int) * n + i = ((one * n + i : Nat) : Int) by rw [Int.natCast_add, Int.natCast_mul]]
        exact this
      have tb1 := tb _ (List.getElem_mem lt)
      generalize td[one * n + i] = t at at1 tb1
      have sn : sml (n : Int) = true := sml_of' (Int.natCast_nonneg n) (Int.lt_of_le_of_lt (Int.ofNat_le.mpr hn) (by decide))
      obtain ⟨v0, hv0⟩ : ∃ v0 : Int, v0 = if t - 402 > 0 then t - 402 else 0 := ⟨_, rfl⟩
      have v0b : 0 ≤ v0 ∧ v0 ≤ 400 := by rw [hv0]; exact mx_y tb1
      have s1 : sSet (gN 8) (fMax (fC (.int 0)) (fBin oSub (fAt (fVar 5) (fBin oAdd (fBin oMul (fVar 6) (fVar 3)) (fVar 7))) (fC (.int 402)))) [some S0, some p1, some (.int way), some (.int n), some (.ref (A + n)), some (.ref tk), some (.int one), some (.int i), b, none, none, none] h0 = .nx [some S0, some p1, some (.int way), some (.int n), some (.ref (A + n)), some (.ref tk), some (.int one), some (.int i), some (.int v0), none, none, none] h0 := by
        rw [hv0]; exact q1 (E := fBin oMul (fVar 6) (fVar 3)) (mul63 (by rw [sn, Bool.or_true]) h0) t1 at1
      obtain ⟨v, vb, s2⟩ : ∃ v : Int, (0 ≤ v ∧ v ≤ 400) ∧ sIf (tE (fBin oEq (fBin oMod (fBin oDiv (fVar 2) (fC (.int 64))) (fC (.int 2))) (fC (.int 1)))) (sSet (gN 8) (fIx (aCons (fC (.int 0)) (aCons (fC (.int 0)) (aCons (fC (.int 1)) (aCons (fC (.int 1)) (aCons (fC (.int 2)) (aCons (fC (.int 3)) (aCons (fC (.int 1)) aNil))))))) (fBin oMod (fAt (fVar 5) (fBin oAdd (fBin oMul (fVar 6) (fVar 3)) (fVar 7))) (fC (.int 7))))) sNil [some S0, some p1, some (.int way), some (.int n), some (.ref (A + n)), some (.ref tk), some (.int one), some (.int i), some (.int v0), none, none, none] h0 = .nx [some S0, some p1, some (.int way), some (.int n), some (.ref (A + n)), some (.ref tk), some (.int one), some (.int i), some (.int v), none, none, none] h0 := by
        by_cases e : way / 64 % 2 = 1
        · obtain ⟨y, hy, py⟩ := pick' D.int [0, 0, 1, 1, 2, 3, 1] (x := t % 7) (Int.emod_nonneg t (by decide)) (Int.emod_lt_of_pos t (by decide))
          simp only [List.map_cons, List.map_nil] at py
          refine ⟨y, by simp at hy; rcases hy with rfl | rfl | rfl | rfl | rfl <;> decide, ?_⟩
          exact q2 (E := fBin oMul (fVar 6) (fVar 3)) (mul63 (by rw [sn, Bool.or_true]) h0) t1 at1 e py
        · refine ⟨v0, v0b, ?_⟩
          exact q3 e
      have lr : ∀ (M : Nat → Nat → Int) (i : Nat), (rowM M n i).length = n := fun M i => by simp [rowM]
      have ne : one ≠ i := Nat.ne_of_gt hi
      have m2 := m1.put (b := i) h1 v
      have m3 := m2.put (b := one) hin v
      have ro1 := m1.ro one h1
      have ro2 := m2.ro i hin
      have a1 := ti_at (A := A) h1
      have a2 := ti_at (A := A) hin
      have s3 : sPut (fAt (fVar 4) (fVar 6)) (fVar 7) (fVar 8) [some S0, some p1, some (.int way), some (.int n), some (.ref (A + n)), some (.ref tk), some (.int one), some (.int i), some (.int v), none, none, none] h0 = .nx [some S0, some p1, some (.int way), some (.int n), some (.ref (A + n)), some (.ref tk), some (.int one), some (.int i), some (.int v), none, none, none] (h0.set (A + one) (.lst (((rowM M1 n one).map .int).set i (.int v)))) := by
        exact ev_put rfl (ev_at rfl rfl (ev_seq m1.ti) a1) rfl ro1 (ixN_nat (by rw [List.length_map, lr]; exact hin))
      have s4 : sPut (fAt (fVar 4) (fVar 7)) (fVar 6) (fVar 8) [some S0, some p1, some (.int way), some (.int n), some (.ref (A + n)), some (.ref tk), some (.int one), some (.int i), some (.int v), none, none, none] (h0.set (A + one) (.lst (((rowM M1 n one).map .int).set i (.int v)))) = .nx [some S0, some p1, some (.int way), some (.int n), some (.ref (A + n)), some (.ref tk), some (.int one), some (.int i), some (.int v), none, none, none] ((h0.set (A + one) (.lst (((rowM M1 n one).map .int).set i (.int v)))).set (A + i) (.lst (((rowM (updM M1 one i v) n i).map .int).set one (.int v)))) := by
        exact ev_put rfl (ev_at rfl rfl (ev_seq m2.ti) a2) rfl ro2 (ixN_nat (by rw [List.length_map, lr]; exact h1))
      refine ⟨_, rfl, [some S0, some p1, some (.int way), some (.int n), some (.ref (A + n)), some (.ref tk), some (.int one), some (.int i), some (.int v), none, none, none], _, ?_, updM (updM M1 one i v) i one v, _, _, rfl, O1.put ne vb.1 vb.2, m3, ?_, by simp [l1]⟩
      · show sSeq _ _ [some S0, some p1, some (.int way), some (.int n), some (.ref (A + n)), some (.ref tk), some (.int one), some (.int i), b, none, none, none] h0 = _
        rw [seq_nx' s1, seq_nx' s2, seq_nx' s3, s4]
      · exact (List.getElem?_set_ne (Nat.ne_of_lt (Nat.lt_trans (Nat.add_lt_add_left hin A) hA))).trans ((List.getElem?_set_ne (Nat.ne_of_lt (Nat.lt_trans (Nat.add_lt_add_left h1 A) hA))).trans t1)) ⟨M, a, b, rfl, O, m, ht, hL⟩
  exact ⟨M', h', a', b', by rw [k1, k2], k3, k4, k5, k6⟩
theorem outer_y {A n tk : Nat} {way : Int} {td : List Int} (hn : n ≤ 30) (tl : td.length = n * n) (tb : ∀ x ∈ td, 0 ≤ x ∧ x < 803) (hA : A + n < tk) {M : Nat → Nat → Int} (O : MOk M) {h : Hd} (m : MatH A n M h) (ht : h[tk]? = some (.lst (td.map .int))) {S0 p1 : D} {L : Nat} (hL : h.length = L) :
    ∃ M' h' c a b, forL none ((List.range n).map fun k : Nat => D.int k) (gN 6) B1_l_model ((List.range n).map fun k : Nat => D.int k) [some S0, some p1, some (.int way), some (.int n), some (.ref (A + n)), some (.ref tk), none, none, none, none, none, none] h
      = .nx [some S0, some p1, some (.int way), some (.int n), some (.ref (A + n)), some (.ref tk), c, a, b, none, none, none] h' ∧ MOk M' ∧ MatH A n M' h' ∧ h'.length = L := by
  obtain ⟨σ', h', k1, M', c', a', b', k2, k3, k4, k5, k6⟩ := forL_next (P := fun i σ h' => ∃ (M' : Nat → Nat → Int) (c a b : Option D), σ = [some S0, some p1, some (.int way), some (.int n), some (.ref (A + n)), some (.ref tk), c, a, b, none, none, none] ∧ MOk M' ∧ MatH A n M' h' ∧ h'[tk]? = some (.lst (td.map .int)) ∧ h'.length = L) (g := none) (k := 0)
      (all := (List.range n).map fun k : Nat => D.int k) (fun _ _ _ _ => trivial)
      (xs := (List.range n).map fun k : Nat => D.int k) (tg := gN 6) (σ := [some S0, some p1, some (.int way), some (.int n), some (.ref (A + n)), some (.ref tk), none, none, none, none, none, none]) (h := h) (b := B1_l_model) (by
      rintro i x σ h0 hx ⟨M1, c, a, b, rfl, O1, m1, t1, l1⟩
      obtain ⟨hi, rfl⟩ := range_at' hx
      obtain ⟨M2, h2, a2, b2, q, O2, m2, t2, l2⟩ := inner_y hi hn tl tb hA O1 m1 t1 (S0 := S0) (p1 := p1) (way := way) (a := a) (b := b) l1
      refine ⟨_, rfl, _, h2, ?_, M2, some (.int i), a2, b2, rfl, O2, m2, t2, l2⟩
      show sFor _ _ _ [some S0, some p1, some (.int way), some (.int n), some (.ref (A + n)), some (.ref tk), some (.int i), a, b, none, none, none] h0 = _
      exact ev_for (ev_range rfl (Nat.le_trans (Nat.le_of_lt hi) (le30 hn))) q) ⟨M, none, none, none, rfl, O, m, ht, hL⟩
  exact ⟨M', h', c', a', b', by rw [k1, k2], k3, k4, k6⟩
end Fm
set_option linter.all false
namespace Fm
structure Mdl (ns : List Int) (n : Nat) (M : Nat → Nat → Int) (bs : List Int) (ss : List (Option Int)) (bk sk : Nat) (h : Hd) : Prop where
  run : F_l_model [.lit (ns.map .int), .int 30] [] = .ok (.tup [.ref (0 + n), .ref bk, .ref sk]) h
  n1 : 1 ≤ n
  n30 : n ≤ 30
  mt : MatH 0 n M h
  mo : MOk M
  ba : h[bk]? = some (.lst (bs.map .int))
  st : h[sk]? = some (.lst (ss.map encO))
  lb : bs.length = n
  ls : ss.length = n
  os : ∀ x ∈ ss, x = none ∨ x = some 0 ∨ x = some 1
  bb : ∀ x ∈ bs, -20000 ≤ x ∧ x ≤ 20000
theorem bit_test {way d : Int} {σ : Sd} {h : Hd} {i : Nat} (hi : σ[i]? = some (some (.int way))) (d0 : 0 < d) (d1 : d < 2 ^ 250) : tE (fBin oEq (fBin oMod (fBin oDiv (fVar i) (fC (.int d))) (fC (.int 2))) (fC (.int 1))) σ h = .ok (decide (way / d % 2 = 1)) h := by
  have v : fVar i σ h = .ok (.int way) h := by simp only [fVar, slot, hi]
  exact ev_b (ev_bin (ev_bin (ev_bin v rfl (ev_div d0 d1)) rfl (ev_mod (by decide))) rfl ev_eq)
theorem bit_of (x : Int) : x % 2 = 0 ∨ x % 2 = 1 := Int.emod_two_eq x
theorem lv1 {x : Int} (h : 0 ≤ x ∧ x < 2001) : -20000 ≤ x - 1000 ∧ x - 1000 ≤ 20000 := by omega
theorem lv2 {x y : Int} (h : 0 ≤ x ∧ x ≤ 12000) : -20000 ≤ x + y % 7 - 3 ∧ x + y % 7 - 3 ≤ 20000 := by omega
theorem lv3 {x : Int} (h : 0 ≤ x ∧ x ≤ 12000) : -20000 ≤ x ∧ x ≤ 20000 := by omega
theorem levels_y {A n lk tk : Nat} {way : Int} {stp : List Int} (hn : n ≤ 30) (sl : stp.length = n) (ne : lk ≠ tk) {h : Hd} {bs : List Int} (lb : bs.length = n) (sb : ∀ x ∈ stp, 0 ≤ x ∧ x < 2001) (bb : ∀ x ∈ bs, 0 ≤ x ∧ x ≤ 12000) (hl : h[lk]? = some (.lst (bs.map .int))) (ht : h[tk]? = some (.lst (stp.map .int))) {S0 p1 q4 q5 : D} {a b c : Option D} :
    ∃ (bs' : List Int) (c' : Option D), forL none ((List.range n).map fun k : Nat => D.int k) (gN 6) B0_l_model ((List.range n).map fun k : Nat => D.int k) [some S0, some p1, some (.int way), some (.int n), some q4, some q5, c, a, b, some (.ref lk), some (.ref tk), none] h
      = .nx [some S0, some p1, some (.int way), some (.int n), some q4, some q5, c', a, b, some (.ref lk), some (.ref tk), none] (h.set lk (.lst (bs'.map .int))) ∧ bs'.length = n ∧ ∀ x ∈ bs', -20000 ≤ x ∧ x ≤ 20000 := by
  have hlt : lk < h.length := (List.getElem?_eq_some_iff.mp hl).1
  obtain ⟨σ', h', k1, bs', c', k2, k3, k4, k5⟩ := forL_next (P := fun i σ h' => ∃ (bs' : List Int) (c' : Option D), σ = [some S0, some p1, some (.int way), some (.int n), some q4, some q5, c', a, b, some (.ref lk), some (.ref tk), none] ∧ h' = h.set lk (.lst (bs'.map .int)) ∧ bs'.length = n ∧ ∀ (j : Nat) x, bs'[j]? = some x → (-20000 ≤ x ∧ x ≤ 20000) ∧ (i ≤ j → 0 ≤ x ∧ x ≤ 12000)) (g := none) (k := 0)
      (all := (List.range n).map fun k : Nat => D.int k) (fun _ _ _ _ => trivial)
      (xs := (List.range n).map fun k : Nat => D.int k) (tg := gN 6) (σ := [some S0, some p1, some (.int way), some (.int n), some q4, some q5, c, a, b, some (.ref lk), some (.ref tk), none]) (h := h) (b := B0_l_model) (by
      rintro i x σ h0 hx ⟨b1, c1, rfl, hh0, l1, bd1⟩
      rw [Nat.zero_add] at bd1 ⊢
      obtain ⟨hi, rfl⟩ := range_at' hx
      have g1 : h0[lk]? = some (.lst (b1.map .int)) := by rw [hh0, List.getElem?_set_self hlt]
      have g2 : h0[tk]? = some (.lst (stp.map .int)) := by rw [hh0, List.getElem?_set_ne ne]; exact ht
      have hi1 : i < b1.length := l1 ▸ hi
      have a1 : atI (b1.map D.int) (i : Int) = some (.int b1[i]) := at_map' hi1
      have a2 : atI (stp.map D.int) (i : Int) = some (.int stp[i]) := at_map' (sl ▸ hi)
      have bx1 := (bd1 i b1[i] (by simp [hi1])).2 (Nat.le_refl _)
      have bx2 := sb stp[i] (List.getElem_mem _)
      generalize b1[i] = x1 at a1 bx1
      generalize stp[i] = x2 at a2 bx2
      have e2 := bit_of (way / 256)
      have ix : ixN (b1.map D.int).length (i : Int) = some i := ixN_nat (by rw [List.length_map]; exact hi1)
      obtain ⟨y, hy, s1⟩ : ∃ y : Int, (-20000 ≤ y ∧ y ≤ 20000) ∧ B0_l_model [some S0, some p1, some (.int way), some (.int n), some q4, some q5, some (.int i), a, b, some (.ref lk), some (.ref tk), none] h0 = .nx [some S0, some p1, some (.int way), some (.int n), some q4, some q5, some (.int i), a, b, some (.ref lk), some (.ref tk), none] (h0.set lk (.lst ((b1.map .int).set i (.int y)))) := by
        rcases e2 with e | e
        · exact ⟨x2 - 1000, lv1 bx2, (ev_put (ev_ix (ev_cons (ev_bin (ev_at rfl rfl (ev_seq g2) a2) rfl rfl) (ev_cons (ev_bin (ev_bin (ev_at rfl rfl (ev_seq g1) a1) (ev_bin (ev_at rfl rfl (ev_seq g2) a2) rfl (ev_mod (by decide))) rfl) rfl rfl) rfl)) (ev_bin (ev_bin rfl rfl (ev_div (by decide) (by decide))) rfl (ev_mod (by decide))) (by rw [e]; rfl)) rfl rfl g1 ix)⟩
        · exact ⟨x1 + x2 % 7 - 3, lv2 bx1, (ev_put (ev_ix (ev_cons (ev_bin (ev_at rfl rfl (ev_seq g2) a2) rfl rfl) (ev_cons (ev_bin (ev_bin (ev_at rfl rfl (ev_seq g1) a1) (ev_bin (ev_at rfl rfl (ev_seq g2) a2) rfl (ev_mod (by decide))) rfl) rfl rfl) rfl)) (ev_bin (ev_bin rfl rfl (ev_div (by decide) (by decide))) rfl (ev_mod (by decide))) (by rw [e]; rfl)) rfl rfl g1 ix)⟩
      refine ⟨_, rfl, _, _, s1, b1.set i y, some (.int i), rfl, ?_, by simp [l1], fun j z hz => ?_⟩
      · rw [hh0, List.set_set, List.map_set]
      · by_cases e : i = j
        · subst e
          rw [List.getElem?_set_self hi1] at hz
          cases hz
          exact ⟨hy, fun q => absurd q (Nat.not_succ_le_self _)⟩
        · rw [List.getElem?_set_ne e] at hz
          have q := bd1 j z hz
          exact ⟨q.1, fun le => q.2 (Nat.le_of_succ_le le)⟩) ⟨bs, c, rfl, by
        apply List.ext_getElem?
        intro j
        by_cases e : lk = j
        · subst e; rw [List.getElem?_set_self hlt]; exact hl
        · rw [List.getElem?_set_ne e], lb, fun j z hz => by
          have q := bb z (List.mem_of_getElem? hz)
          exact ⟨lv3 q, fun _ => q⟩⟩
  exact ⟨bs', c', by rw [k1, k2, k3], k4, fun z hz => by
    obtain ⟨j, hj⟩ := List.getElem?_of_mem hz
    exact (k5 j z hj).1⟩
theorem rep_map (v : D) : ∀ n, (List.replicate n [v]).flatten = List.replicate n v
  | 0 => rfl
  | n + 1 => by rw [List.replicate_succ, List.replicate_succ, List.flatten_cons, rep_map v n]; rfl
theorem hold_comp {l : List Int} (hb : ∀ x ∈ l, 0 ≤ x ∧ x < 7) {h : Hd} {k : Nat} (hk : h[k]? = some (.lst (l.map .int))) (a : Option D) : ∃ ss : List (Option Int), compL (some k) (l.map .int) (gN 0) [] (fIx (aCons (fC (.int 0)) (aCons (fC (.int 1)) (aCons (fC .non) (aCons (fC .non) (aCons (fC .non) (aCons (fC .non) (aCons (fC .non) aNil))))))) (fVar 0)) (l.map .int) [a] h = .ok (ss.map encO) h ∧ ss.length = l.length ∧ ∀ x ∈ ss, x = none ∨ x = some 0 ∨ x = some 1 := by
  have := compL_pure (g := some k) (all := l.map .int) (tg := gN 0) (cs := []) (e := fIx (aCons (fC (.int 0)) (aCons (fC (.int 1)) (aCons (fC .non) (aCons (fC .non) (aCons (fC .non) (aCons (fC .non) (aCons (fC .non) aNil))))))) (fVar 0)) (h := h) (I := fun σ => ∃ a, σ = [a]) (fun _ => true) (fun d => match d with | .int x => encO (if x = 0 then some 0 else if x = 1 then some 1 else none) | _ => .non) hk
    (xs := l.map .int) (σ := [a]) (by
      rintro x hx σ ⟨c, rfl⟩
      obtain ⟨u, hu, rfl⟩ := List.mem_map.mp hx
      have b := hb u hu
      refine ⟨_, rfl, ⟨_, rfl⟩, rfl, fun _ => ?_⟩
      obtain ⟨u, rfl⟩ := Int.eq_ofNat_of_zero_le b.1
      match u, Int.ofNat_lt.mp b.2 with
      | 0, _ | 1, _ | 2, _ | 3, _ | 4, _ | 5, _ | 6, _ => rfl
      | k + 7, z => exact absurd z (Nat.not_lt.mpr (Nat.le_add_left 7 k))) ⟨_, rfl⟩
  refine ⟨l.map fun x => if x = 0 then some 0 else if x = 1 then some 1 else none, ?_, by simp, fun x hx => ?_⟩
  · rw [this, List.filter_eq_self.mpr (by simp), List.map_map, List.map_map]; rfl
  · obtain ⟨u, _, rfl⟩ := List.mem_map.mp hx
    split
    · exact .inr (.inl rfl)
    · split
      · exact .inr (.inr rfl)
      · exact .inl rfl
theorem mul33 {x0 x1 x2 : Option D} {r : Sd} {N : Int} (e : (sml N || sml N) = true) (h : Hd) : fBin oMul (fVar 3) (fVar 3) (x0 :: x1 :: x2 :: some (.int N) :: r) h = .ok (.int (N * N)) h := by
  rw [show fBin oMul (fVar 3) (fVar 3) (x0 :: x1 :: x2 :: some (.int N) :: r) h = oMul (.int N) (.int N) h from rfl]
  exact mulS e h
theorem told_y {S0 : D} {x1 x3 x4 : D} {way c1 q : Int} {k : Nat} {E : EF} {h3 h4 : Hd} (hc1 : F_l_cell [S0, .int 1] h3 = .ok (.int c1) h3) (pr : E [some S0, some x1, some (.int way), some x3, some x4, none, none, none, none, none, none, none] h3 = .ok (.int q) h3) (q4 : F_l_row [.int c1, .int way, .int q, .int 803] h3 = .ok (.ref k) h4) :
    sSet (gN 5) (fCall F_l_row (aCons (fCall F_l_cell (aCons (fVar 0) (aCons (fC (.int 1)) aNil))) (aCons (fVar 2) (aCons E (aCons (fC (.int 803)) aNil))))) [some S0, some x1, some (.int way), some x3, some x4, none, none, none, none, none, none, none] h3 = .nx [some S0, some x1, some (.int way), some x3, some x4, some (.ref k), none, none, none, none, none, none] h4 := by
  exact ev_set (ev_call (ev_cons (ev_call (ev_2 rfl rfl) hc1) (ev_cons rfl (ev_cons pr (ev_cons rfl rfl)))) q4)
theorem rep_y {n : Nat} (hn : n ≤ 30) {v : D} {σ : Sd} {h : Hd} {b : EF} (hb : b σ h = .ok (.int n) h) : fNew (lRep (aCons (fC v) aNil) b) σ h = .ok (.ref h.length) (h ++ [.lst (List.replicate n v)]) :=
  ev_new (by rw [ev_rep (l := [v]) rfl hb ⟨Int.natCast_nonneg n, Int.le_trans (Int.ofNat_le.mpr hn) (by decide), by rw [Int.toNat_natCast]; exact Nat.le_trans (Nat.le_of_eq (Nat.one_mul n)) (le30 hn)⟩, Int.toNat_natCast, rep_map]) (by rw [List.length_replicate]; exact le30 hn)
theorem many_y (way : Int) : ∃ n : Nat, (n : Int) = 1 + way / 2 % 30 ∧ 1 ≤ n ∧ n ≤ 30 := by
  have h0 := Int.emod_nonneg (way / 2) (show (30 : Int) ≠ 0 by decide)
  have h1 := Int.emod_lt_of_pos (way / 2) (show (0 : Int) < 30 by decide)
  generalize way / 2 % 30 = x at h0 h1
  obtain ⟨k, rfl⟩ := Int.eq_ofNat_of_zero_le h0
  exact ⟨1 + k, rfl, Nat.le_add_right 1 k, by rw [Nat.add_comm]; exact Int.ofNat_lt.mp h1⟩
theorem sum_y : ∀ l : List Int, (∀ y ∈ l, 0 ≤ y ∧ y ≤ 400) → 0 ≤ l.sum ∧ l.sum ≤ 400 * l.length
  | [], _ => ⟨Int.le_refl _, Int.le_refl _⟩
  | y :: l, h => by
    have a := h y List.mem_cons_self
    have b := sum_y l fun z hz => h z (List.mem_cons_of_mem _ hz)
    rw [List.sum_cons, List.length_cons]
    omega
theorem bd_y {n : Nat} {x : Int} (hn : n ≤ 30) (h : 0 ≤ x ∧ x ≤ 400 * n) : 0 ≤ x ∧ x ≤ 12000 := ⟨h.1, Int.le_trans h.2 (Int.mul_le_mul_of_nonneg_left (Int.ofNat_le.mpr hn) (by decide))⟩
noncomputable abbrev XM (S0 : D) (way : Int) (n : Nat) (a5 a6 a7 a8 a9 a10 a11 : Option D) : Sd := [some S0, some (.int 30), some (.int way), some (.int n), some (.ref (0 + n)), a5, a6, a7, a8, a9, a10, a11]
theorem model_ok (ns : List Int) : ∃ n M bs ss bk sk h, Mdl ns n M bs ss bk sk h := by
  obtain ⟨way, hway⟩ := ycell ns 0 (by decide)
  obtain ⟨c1, hc1⟩ := ycell ns 1 (by decide)
  obtain ⟨c2, hc2⟩ := ycell ns 2 (by decide)
  obtain ⟨c3, hc3⟩ := ycell ns 3 (by decide)
  obtain ⟨S0, hS0⟩ : ∃ S0 : D, S0 = .lit (ns.map .int) := ⟨_, rfl⟩
  have hway : ∀ h, F_l_cell [S0, .int 0] h = .ok (.int way) h := by rw [hS0]; exact hway
  have hc1 : ∀ h, F_l_cell [S0, .int 1] h = .ok (.int c1) h := by rw [hS0]; exact hc1
  have hc2 : ∀ h, F_l_cell [S0, .int 2] h = .ok (.int c2) h := by rw [hS0]; exact hc2
  have hc3 : ∀ h, F_l_cell [S0, .int 3] h = .ok (.int c3) h := by rw [hS0]; exact hc3
  obtain ⟨n, hn, n1, n30⟩ := many_y way
  have e0 : sSet (gN 2) (fCall F_l_cell (aCons (fVar 0) (aCons (fC (.int 0)) aNil))) [some S0, some (.int 30), none, none, none, none, none, none, none, none, none, none] [] = .nx [some S0, some (.int 30), some (.int way), none, none, none, none, none, none, none, none, none] [] := ev_set (ev_call (ev_2 rfl rfl) (hway _))
  have e1 : sSet (gN 3) (fBin oAdd (fC (.int 1)) (fBin oMod (fBin oDiv (fVar 2) (fC (.int 2))) (fVar 1))) [some S0, some (.int 30), some (.int way), none, none, none, none, none, none, none, none, none] [] = .nx [some S0, some (.int 30), some (.int way), some (.int n), none, none, none, none, none, none, none, none] [] := by rw [hn]; exact ev_set (ev_bin rfl (ev_bin (ev_bin rfl rfl (ev_div (by decide) (by decide))) rfl (ev_mod (by decide))) rfl)
  obtain ⟨ds, h2, k2, l2, v2, σ2, q2, hh2, g2⟩ := compL_next (g := none) (all := (List.range n).map fun k : Nat => D.int k) (tg := gN 0) (xs := (List.range n).map fun k : Nat => D.int k) (k := 0)
    (e := fNew (lRep (aCons (fC (.int 0)) aNil) (fVar 1))) (σ := [none, some (.int n)]) (h := [])
    (P := fun i σ h => (∃ a, σ = [a, some (.int n)]) ∧ h.length = i ∧ ∀ j, j < i → h[j]? = some (.lst ((List.replicate n 0).map .int))) (V := fun i d => d = .ref i) (fun _ _ _ _ => trivial) (by
      rintro i x σ h0 hx ⟨⟨a, rfl⟩, hl, e1⟩
      obtain ⟨hi, rfl⟩ := range_at' hx
      rw [Nat.zero_add] at hl e1 ⊢
      refine ⟨_, rfl, .ref h0.length, h0 ++ [.lst ((List.replicate n 0).map .int)], ?_, by rw [hl], ⟨_, rfl⟩, by simp [hl], fun j hj => ?_⟩
      · rw [List.map_replicate]; exact rep_y n30 rfl
      · by_cases hji : j < i
        · exact app_at _ (e1 j hji)
        · have : j = i := Nat.le_antisymm (Nat.le_of_lt_succ hj) (Nat.not_lt.mp hji)
          subst this
          rw [← hl]; exact List.getElem?_concat_length) ⟨⟨_, rfl⟩, rfl, fun j hj => absurd hj (Nat.not_lt_zero _)⟩
  simp at l2 hh2 g2
  have e2' : ds = (List.range n).map fun i => .ref (0 + i) := list_of_at l2 fun i d hd => by simpa using v2 i d hd
  subst e2'
  obtain ⟨h3, hh3⟩ : ∃ h3, h3 = h2 ++ [Cell.lst ((List.range n).map fun i => .ref (0 + i))] := ⟨_, rfl⟩
  have l3 : h3.length = n + 1 := by rw [hh3]; simp [hh2]
  have e2 : sSet (gN 4) (fNew (lComp 1 [3] (iRange (fVar 3)) (gN 0) [] (fNew (lRep (aCons (fC (.int 0)) aNil) (fVar 1))))) [some S0, some (.int 30), some (.int way), some (.int n), none, none, none, none, none, none, none, none] [] = .nx (XM S0 way n none none none none none none none) h3 := by
    rw [hh3]
    show _ = Out.nx [some S0, some (.int 30), some (.int way), some (.int n), some (.ref (0 + n)), none, none, none, none, none, none, none] _
    rw [show D.ref (0 + n) = .ref h2.length by rw [hh2, Nat.zero_add]]
    exact ev_set (ev_new (ev_comp (ev_range rfl (le30 n30)) k2) (by rw [List.length_map, List.length_range]; exact (le30 n30)))
  have m3 : MatH 0 n (fun _ _ => 0) h3 := by
    refine ⟨fun i hi => ?_, ?_⟩
    · rw [hh3, Nat.zero_add, app_at _ (g2 i hi)]
      congr 2
      simp only [rowM, List.map_map]
      apply List.ext_getElem?
      intro j
      by_cases hj : j < n <;> simp [hj]
    · rw [hh3, Nat.zero_add, ← hh2]; exact List.getElem?_concat_length
  have O3 : MOk (fun _ _ => 0) := ⟨fun _ _ => rfl, fun _ _ => ⟨Int.le_refl _, by decide⟩, fun _ => rfl⟩
  obtain ⟨td, q4, tl, tb⟩ := yrow c1 way 803 (n * n) (Nat.le_trans (Nat.mul_le_mul n30 n30) (by decide)) (by decide) (by decide) h3
  obtain ⟨h4, hh4⟩ : ∃ h4, h4 = h3 ++ [Cell.lst (td.map .int)] := ⟨_, rfl⟩
  rw [← hh4, l3] at q4
  have sn : sml (n : Int) = true := sml_of' (Int.natCast_nonneg n) (Int.lt_of_le_of_lt (Int.ofNat_le.mpr n30) (by decide))
  have e3 : sSet (gN 5) (fCall F_l_row (aCons (fCall F_l_cell (aCons (fVar 0) (aCons (fC (.int 1)) aNil))) (aCons (fVar 2) (aCons (fBin oMul (fVar 3) (fVar 3)) (aCons (fC (.int 803)) aNil))))) (XM S0 way n none none none none none none none) h3 = .nx (XM S0 way n (some (.ref (n + 1))) none none none none none none) h4 := by
    have q4' : F_l_row [.int c1, .int way, .int ((n : Int) * n), .int 803] h3 = .ok (.ref (n + 1)) h4 := by rw [← Int.natCast_mul]; exact q4
    exact told_y (E := fBin oMul (fVar 3) (fVar 3)) (hc1 h3) (mul33 (by rw [sn, Bool.or_self]) h3) q4'
  have m4 : MatH 0 n (fun _ _ => 0) h4 := by rw [hh4]; exact m3.more _
  have t4 : h4[n + 1]? = some (.lst (td.map .int)) := by rw [hh4, ← l3]; exact List.getElem?_concat_length
  obtain ⟨M, h5, x6, x7, x8, q5, O5, m5, l5⟩ := outer_y (A := 0) (tk := n + 1) (way := way) n30 tl tb (by omega) O3 m4 t4 (S0 := S0) (p1 := .int 30) (L := n + 2) (by rw [hh4]; simp [l3])
  have e4 : sFor (iRange (fVar 3)) (gN 6) B1_l_model (XM S0 way n (some (.ref (n + 1))) none none none none none none) h4 = .nx (XM S0 way n (some (.ref (n + 1))) x6 x7 x8 none none none) h5 := ev_for (ev_range rfl (le30 n30)) q5
  have cs : compL (some (0 + n)) ((List.range n).map fun i => .ref (0 + i)) (gN 0) [] (fSum (lOf (fVar 0))) ((List.range n).map fun i => .ref (0 + i)) [none] h5 = .ok (((List.range n).map fun i => (rowM M n i).sum).map D.int) h5 := by
    have := compL_pure (g := some (0 + n)) (all := (List.range n).map fun i => .ref (0 + i)) (tg := gN 0) (cs := []) (e := fSum (lOf (fVar 0))) (h := h5) (I := fun σ => ∃ a, σ = [a]) (fun _ => true) (fun d => match d with | .ref k => .int (rowM M n k).sum | _ => .non) m5.ti (xs := (List.range n).map fun i => .ref (0 + i)) (σ := [none]) (by
      rintro x hx σ ⟨a, rfl⟩
      obtain ⟨i, hi, rfl⟩ := List.mem_map.mp hx
      have hi := List.mem_range.mp hi
      have r := m5.ro i hi
      simp only [Nat.zero_add] at r ⊢
      refine ⟨_, rfl, ⟨_, rfl⟩, rfl, fun _ => ?_⟩
      exact ev_sum (ev_lof rfl (ev_seq r)) (intsD_map _)) ⟨_, rfl⟩
    rw [this, List.filter_eq_self.mpr (by simp), List.map_map, List.map_map]
    refine congrArg (fun l => Res.ok l h5) ?_
    apply List.map_congr_left
    intro i _
    simp
  obtain ⟨bs0, hbs0⟩ : ∃ bs0, bs0 = (List.range n).map fun i => (rowM M n i).sum := ⟨_, rfl⟩
  rw [← hbs0] at cs
  have lb0 : bs0.length = n := by rw [hbs0]; simp
  have bb0 : ∀ x ∈ bs0, 0 ≤ x ∧ x ≤ 12000 := fun x hx => by
    rw [hbs0] at hx
    obtain ⟨i, _, rfl⟩ := List.mem_map.mp hx
    have := sum_y (rowM M n i) fun y hy => by
      obtain ⟨j, _, rfl⟩ := List.mem_map.mp hy
      exact O5.bd i j
    have ll : (rowM M n i).length = n := by simp [rowM]
    rw [ll] at this
    exact bd_y n30 this
  obtain ⟨h6, hh6⟩ : ∃ h6, h6 = h5 ++ [Cell.lst (bs0.map .int)] := ⟨_, rfl⟩
  have l6 : h6.length = n + 3 := by rw [hh6]; simp [l5]
  have e5 : sSet (gN 9) (fNew (lComp 1 [] (iSeq (fVar 4)) (gN 0) [] (fSum (lOf (fVar 0))))) (XM S0 way n (some (.ref (n + 1))) x6 x7 x8 none none none) h5 = .nx (XM S0 way n (some (.ref (n + 1))) x6 x7 x8 (some (.ref (n + 2))) none none) h6 := by
    rw [hh6, ← l5]
    exact ev_set (ev_new (ev_comp (ev_iseq rfl m5.ti) cs) (by rw [List.length_map, lb0]; exact (le30 n30)))
  have m6 : MatH 0 n M h6 := by rw [hh6]; exact m5.more _
  have b6 : h6[n + 2]? = some (.lst (bs0.map .int)) := by rw [hh6, ← l5]; exact List.getElem?_concat_length
  have e6 : ∃ (bs : List Int) (x6' x10 : Option D) (h7 : Hd), sIf (tE (fBin oEq (fBin oMod (fBin oDiv (fVar 2) (fC (.int 128))) (fC (.int 2))) (fC (.int 1)))) (sSeq (sSet (gN 10) (fCall F_l_row (aCons (fCall F_l_cell (aCons (fVar 0) (aCons (fC (.int 2)) aNil))) (aCons (fVar 2) (aCons (fVar 3) (aCons (fC (.int 2001)) aNil))))))
    (sFor (iRange (fVar 3)) (gN 6) B0_l_model)) sNil (XM S0 way n (some (.ref (n + 1))) x6 x7 x8 (some (.ref (n + 2))) none none) h6 = .nx (XM S0 way n (some (.ref (n + 1))) x6' x7 x8 (some (.ref (n + 2))) x10 none) h7 ∧ MatH 0 n M h7 ∧ h7[n + 2]? = some (.lst (bs.map .int)) ∧ bs.length = n ∧ n + 3 ≤ h7.length ∧ ∀ x ∈ bs, -20000 ≤ x ∧ x ≤ 20000 := by
    have bt := bit_test (way := way) (d := 128) (σ := (XM S0 way n (some (.ref (n + 1))) x6 x7 x8 (some (.ref (n + 2))) none none)) (h := h6) (i := 2) rfl (by decide) (by decide)
    by_cases e : way / 128 % 2 = 1
    · rw [decide_eq_true e] at bt
      obtain ⟨stp, q7, sl, sb⟩ := yrow c2 way 2001 n (le30 n30) (by decide) (by decide) h6
      rw [l6] at q7
      have t1 : sSet (gN 10) (fCall F_l_row (aCons (fCall F_l_cell (aCons (fVar 0) (aCons (fC (.int 2)) aNil))) (aCons (fVar 2) (aCons (fVar 3) (aCons (fC (.int 2001)) aNil))))) (XM S0 way n (some (.ref (n + 1))) x6 x7 x8 (some (.ref (n + 2))) none none) h6 = .nx (XM S0 way n (some (.ref (n + 1))) x6 x7 x8 (some (.ref (n + 2))) (some (.ref (n + 3))) none) (h6 ++ [.lst (stp.map .int)]) := by
        exact ev_set (ev_call (ev_cons (ev_call (ev_2 rfl rfl) (hc2 _)) (ev_cons rfl (ev_2 rfl rfl))) q7)
      obtain ⟨bs', c', q8, lb', bb'⟩ := levels_y (A := 0) (lk := n + 2) (tk := n + 3) (way := way) n30 sl (Nat.ne_of_lt (Nat.lt_succ_self _)) (h := h6 ++ [.lst (stp.map .int)]) lb0 sb bb0 (app_at _ b6) (by rw [← l6]; exact List.getElem?_concat_length) (S0 := S0) (p1 := .int 30) (q4 := .ref (0 + n)) (q5 := .ref (n + 1)) (a := x7) (b := x8) (c := x6)
      refine ⟨bs', c', some (.ref (n + 3)), _, ?_, (m6.more [.lst (stp.map .int)]).set (k := n + 2) (by omega) (.lst (bs'.map .int)), ?_, lb', by simp [l6], bb'⟩
      · exact (ev_t bt).trans ((seq_nx' t1).trans (ev_for (ev_range rfl (le30 n30)) q8))
      · rw [List.getElem?_set_self (by simp [l6])]
    · rw [decide_eq_false e] at bt
      exact ⟨bs0, x6, none, h6, by rw [if_f bt]; rfl, m6, b6, lb0, Nat.le_of_eq l6.symm, fun x hx => lv3 (bb0 x hx)⟩
  obtain ⟨bs, x6', x10, h7, e6, m7, b7, lb7, l7, bb7⟩ := e6
  obtain ⟨h8, hh8⟩ : ∃ h8, h8 = h7 ++ [Cell.lst ((List.replicate n (none : Option Int)).map encO)] := ⟨_, rfl⟩
  have e7 : sSet (gN 11) (fNew (lRep (aCons (fC .non) aNil) (fVar 3))) (XM S0 way n (some (.ref (n + 1))) x6' x7 x8 (some (.ref (n + 2))) x10 none) h7 = .nx (XM S0 way n (some (.ref (n + 1))) x6' x7 x8 (some (.ref (n + 2))) x10 (some (.ref h7.length))) h8 := by
    rw [hh8, List.map_replicate]
    exact ev_set (rep_y n30 rfl)
  have m8 : MatH 0 n M h8 := by rw [hh8]; exact m7.more _
  have b8 : h8[n + 2]? = some (.lst (bs.map .int)) := by rw [hh8]; exact app_at _ b7
  have s8 : h8[h7.length]? = some (.lst ((List.replicate n (none : Option Int)).map encO)) := by rw [hh8]; simp
  have e8 : ∃ (ss : List (Option Int)) (x5 : D) (sk : Nat) (h9 : Hd), sIf (tE (fBin oEq (fBin oMod (fBin oDiv (fVar 2) (fC (.int 512))) (fC (.int 2))) (fC (.int 1)))) (sSeq (sSet (gN 5) (fCall F_l_row (aCons (fCall F_l_cell (aCons (fVar 0) (aCons (fC (.int 3)) aNil))) (aCons (fVar 2) (aCons (fVar 3) (aCons (fC (.int 7)) aNil))))))
    (sSet (gN 11) (fNew (lComp 1 [] (iSeq (fVar 5)) (gN 0) [] (fIx (aCons (fC (.int 0)) (aCons (fC (.int 1)) (aCons (fC .non) (aCons (fC .non) (aCons (fC .non) (aCons (fC .non) (aCons (fC .non) aNil))))))) (fVar 0)))))) sNil (XM S0 way n (some (.ref (n + 1))) x6' x7 x8 (some (.ref (n + 2))) x10 (some (.ref h7.length))) h8 = .nx (XM S0 way n (some x5) x6' x7 x8 (some (.ref (n + 2))) x10 (some (.ref sk))) h9 ∧ MatH 0 n M h9 ∧ h9[n + 2]? = some (.lst (bs.map .int)) ∧ h9[sk]? = some (.lst (ss.map encO)) ∧ ss.length = n ∧ ∀ x ∈ ss, x = none ∨ x = some 0 ∨ x = some 1 := by
    have bt := bit_test (way := way) (d := 512) (σ := (XM S0 way n (some (.ref (n + 1))) x6' x7 x8 (some (.ref (n + 2))) x10 (some (.ref h7.length)))) (h := h8) (i := 2) rfl (by decide) (by decide)
    by_cases e : way / 512 % 2 = 1
    · rw [decide_eq_true e] at bt
      obtain ⟨tl3, q9, sl, sb⟩ := yrow c3 way 7 n (le30 n30) (by decide) (by decide) h8
      obtain ⟨hA, hhA⟩ : ∃ hA, hA = h8 ++ [Cell.lst (tl3.map .int)] := ⟨_, rfl⟩
      rw [← hhA] at q9
      have g9 : hA[h8.length]? = some (.lst (tl3.map .int)) := by rw [hhA]; simp
      obtain ⟨ss, cq, lss, oss⟩ := hold_comp sb g9 none
      have t1 : sSet (gN 5) (fCall F_l_row (aCons (fCall F_l_cell (aCons (fVar 0) (aCons (fC (.int 3)) aNil))) (aCons (fVar 2) (aCons (fVar 3) (aCons (fC (.int 7)) aNil))))) (XM S0 way n (some (.ref (n + 1))) x6' x7 x8 (some (.ref (n + 2))) x10 (some (.ref h7.length))) h8 = .nx (XM S0 way n (some (.ref h8.length)) x6' x7 x8 (some (.ref (n + 2))) x10 (some (.ref h7.length))) hA := by
        exact ev_set (ev_call (ev_cons (ev_call (ev_2 rfl rfl) (hc3 _)) (ev_cons rfl (ev_2 rfl rfl))) q9)
      have t2 : sSet (gN 11) (fNew (lComp 1 [] (iSeq (fVar 5)) (gN 0) [] (fIx (aCons (fC (.int 0)) (aCons (fC (.int 1)) (aCons (fC .non) (aCons (fC .non) (aCons (fC .non) (aCons (fC .non) (aCons (fC .non) aNil))))))) (fVar 0)))) (XM S0 way n (some (.ref h8.length)) x6' x7 x8 (some (.ref (n + 2))) x10 (some (.ref h7.length))) hA = .nx (XM S0 way n (some (.ref h8.length)) x6' x7 x8 (some (.ref (n + 2))) x10 (some (.ref hA.length))) (hA ++ [.lst (ss.map encO)]) := by
        exact ev_set (ev_new (ev_comp (ev_iseq rfl g9) cq) (by rw [List.length_map, lss, sl]; exact (le30 n30)))
      refine ⟨ss, .ref h8.length, hA.length, hA ++ [.lst (ss.map encO)], ?_, by rw [hhA]; exact (m8.more _).more _, ?_, by simp, lss.trans sl, oss⟩
      · exact (ev_t bt).trans ((seq_nx' t1).trans t2)
      · exact app_at _ (by rw [hhA]; exact app_at _ b8)
    · rw [decide_eq_false e] at bt
      exact ⟨List.replicate n none, .ref (n + 1), h7.length, h8, by rw [if_f bt]; rfl, m8, b8, s8, by simp, fun x hx => .inl (List.eq_of_mem_replicate hx)⟩
  obtain ⟨ss, x5, sk, h9, e8, m9, b9, s9, ls9, os9⟩ := e8
  have e9 : sRet (fTup (aCons (fVar 4) (aCons (fVar 9) (aCons (fVar 11) aNil)))) (XM S0 way n (some x5) x6' x7 x8 (some (.ref (n + 2))) x10 (some (.ref sk))) h9 = .rt (.tup [.ref (0 + n), .ref (n + 2), .ref sk]) h9 := ev_ret (ev_tup (ev_cons rfl (ev_2 rfl rfl)))
  refine ⟨n, M, bs, ss, n + 2, sk, h9, ?_, n1, n30, m9, O5, b9, s9, lb7, ls9, os9, bb7⟩
  have st : ([S0, D.int 30].map some ++ List.replicate (12 - [S0, D.int 30].length) none : Sd) = [some S0, some (.int 30), none, none, none, none, none, none, none, none, none, none] := rfl
  rw [← hS0]
  unfold F_l_model mkFn runB
  rw [if_pos (by rfl), st, seq_nx' e0, seq_nx' e1, seq_nx' e2, seq_nx' e3, seq_nx' e4, seq_nx' e5, seq_nx' e6, seq_nx' e7, seq_nx' e8, e9]
  exact letGo_ref rfl
end Fm
set_option linter.all false
namespace Fm
noncomputable def proc (one other i j : Nat) : Prop := (i < one ∧ j < one) ∨ (i = one ∧ j < other) ∨ (j = one ∧ i < other)
noncomputable instance (one other i j : Nat) : Decidable (proc one other i j) := by unfold proc; infer_instance
noncomputable def cellP (M : Nat → Nat → Int) (s : List Int) (one other i j : Nat) : Int := if proc one other i j ∧ s.getD j 0 = 1 then M i j else 0
structure LP (n : Nat) (M : Nat → Nat → Int) (one other : Nat) (T : List Tie) : Prop where
  ok : TOk n one other T
  pl : ∀ i, i < n → ∀ s, pulled (nbs T i) s = sumR (cellP M s one other i) n
theorem pa1 (a b c : Int) : a + (b + c) = a + b + c := (Int.add_assoc a b c).symm
theorem pulled_app (r r' : List (Nat × Int)) (s : List Int) : pulled (r ++ r') s = pulled r s + pulled r' s := by
  induction r with
  | nil => simp [pulled, pulledL]
  | cons p r ih => rw [List.cons_append, pulled_cons, pulled_cons, ih]; exact pa1 _ _ _
theorem sr1 (S x y : Int) : S + 0 + x = S + y + (x - y) := by omega
theorem sumR_at {f g : Nat → Int} {p : Nat} (h : ∀ j, j ≠ p → f j = g j) : ∀ n, sumR f n = sumR g n + if p < n then f p - g p else 0
  | 0 => by simp [sumR]
  | n + 1 => by
    rw [sumR, sumR, sumR_at h n]
    by_cases e : n = p
    · subst e
      rw [if_neg (Nat.lt_irrefl _), if_pos (Nat.lt_succ_self _)]; exact sr1 _ _ _
    · rw [h n e]
      by_cases l : p < n
      · rw [if_pos l, if_pos (Nat.lt_succ_of_lt l)]; exact Int.add_right_comm _ _ _
      · rw [if_neg l, if_neg fun z => (Nat.lt_succ_iff_lt_or_eq.mp z).elim l fun z => e z.symm, Int.add_zero, Int.add_zero]
theorem sumR_congr {f g : Nat → Int} : ∀ n, (∀ j, j < n → f j = g j) → sumR f n = sumR g n
  | 0, _ => rfl
  | n + 1, h => by rw [sumR, sumR, sumR_congr n fun j hj => h j (by omega), h n (by omega)]
theorem proc_succ {one other i j : Nat} : proc one (other + 1) i j ↔ proc one other i j ∨ (i = one ∧ j = other) ∨ (j = one ∧ i = other) := by
  constructor
  · rintro (h | ⟨a, b⟩ | ⟨a, b⟩)
    · exact .inl (.inl h)
    · exact (Nat.lt_succ_iff_lt_or_eq.mp b).elim (fun b => .inl (.inr (.inl ⟨a, b⟩))) fun b => .inr (.inl ⟨a, b⟩)
    · exact (Nat.lt_succ_iff_lt_or_eq.mp b).elim (fun b => .inl (.inr (.inr ⟨a, b⟩))) fun b => .inr (.inr ⟨a, b⟩)
  · rintro ((h | ⟨a, b⟩ | ⟨a, b⟩) | ⟨a, b⟩ | ⟨a, b⟩)
    · exact .inl h
    · exact .inr (.inl ⟨a, Nat.lt_succ_of_lt b⟩)
    · exact .inr (.inr ⟨a, Nat.lt_succ_of_lt b⟩)
    · exact .inr (.inl ⟨a, b ▸ Nat.lt_succ_self _⟩)
    · exact .inr (.inr ⟨a, b ▸ Nat.lt_succ_self _⟩)
theorem proc_same {one other i j : Nat} (h1 : ¬ (i = one ∧ j = other)) (h2 : ¬ (j = one ∧ i = other)) : proc one (other + 1) i j ↔ proc one other i j :=
  proc_succ.trans ⟨fun z => z.elim id fun z => z.elim (fun z => absurd z h1) fun z => absurd z h2, .inl⟩
theorem proc_no {one other : Nat} (ho : other < one) : ¬ proc one other one other ∧ ¬ proc one other other one := by
  refine ⟨?_, ?_⟩
  · rintro (h | h | h)
    · exact Nat.lt_irrefl _ h.1
    · exact Nat.lt_irrefl _ h.2
    · exact Nat.lt_irrefl _ (h.1 ▸ ho)
  · rintro (h | h | h)
    · exact Nat.lt_irrefl _ h.2
    · exact Nat.lt_irrefl _ (h.1 ▸ ho)
    · exact Nat.lt_irrefl _ h.2
theorem proc_turn {one i j : Nat} (e : ¬ (i = one ∧ j = one)) : proc one one i j ↔ proc (one + 1) 0 i j := by
  constructor
  · rintro (h | h | h)
    · exact .inl ⟨Nat.lt_succ_of_lt h.1, Nat.lt_succ_of_lt h.2⟩
    · exact .inl ⟨h.1 ▸ Nat.lt_succ_self _, Nat.lt_succ_of_lt h.2⟩
    · exact .inl ⟨Nat.lt_succ_of_lt h.2, h.1 ▸ Nat.lt_succ_self _⟩
  · rintro (⟨a, b⟩ | h | h)
    · rcases Nat.lt_succ_iff_lt_or_eq.mp a with a | a <;> rcases Nat.lt_succ_iff_lt_or_eq.mp b with b | b
      · exact .inl ⟨a, b⟩
      · exact .inr (.inr ⟨b, a⟩)
      · exact .inr (.inl ⟨a, b⟩)
      · exact absurd ⟨a, b⟩ e
    · exact absurd h.2 (Nat.not_lt_zero _)
    · exact absurd h.2 (Nat.not_lt_zero _)
theorem cell_step {n : Nat} {M : Nat → Nat → Int} (O : MOk M) {one other : Nat} (ho : other < one) (hn : one < n) (i : Nat) (s : List Int) :
    sumR (cellP M s one (other + 1) i) n = sumR (cellP M s one other i) n + (if i = one then (if s.getD other 0 = 1 then M one other else 0) else if i = other then (if s.getD one 0 = 1 then M one other else 0) else 0) := by
  by_cases e1 : i = one
  · subst e1
    rw [if_pos rfl, sumR_at (p := other) (g := cellP M s i other i) (fun j hj => ?_), if_pos (Nat.lt_trans ho hn)]
    · have p1 : proc i (other + 1) i other := .inr (.inl ⟨rfl, Nat.lt_succ_self _⟩)
      have p2 := (proc_no ho).1
      simp only [cellP, p1, p2, true_and, false_and, if_false, Int.sub_zero]
    · have := proc_same (one := i) (i := i) (fun z => hj z.2) fun z => Nat.ne_of_gt ho z.2
      simp only [cellP, this]
  · rw [if_neg e1]
    by_cases e2 : i = other
    · subst e2
      rw [if_pos rfl, sumR_at (p := one) (g := cellP M s one i i) (fun j hj => ?_), if_pos hn]
      · have p1 : proc one (i + 1) i one := .inr (.inr ⟨rfl, Nat.lt_succ_self _⟩)
        have p2 := (proc_no ho).2
        simp only [cellP, p1, p2, true_and, false_and, if_false, O.sym i one, Int.sub_zero]
      · have := proc_same (i := i) (other := i) (fun z => e1 z.1) fun z => hj z.1
        simp only [cellP, this]
    · rw [if_neg e2, sumR_congr n (g := cellP M s one other i) fun j _ => ?_]
      · exact (Int.add_zero _).symm
      · have := proc_same (i := i) (j := j) (fun z => e1 z.1) fun z => e2 z.2
        simp only [cellP, this]
theorem LP.skip {n : Nat} {M : Nat → Nat → Int} (O : MOk M) {one other : Nat} {T : List Tie} (L : LP n M one other T) (ho : other < one) (hn : one < n) (z : M one other = 0) : LP n M one (other + 1) T :=
  ⟨L.ok.skip, fun i hi s => by
    rw [L.pl i hi s, cell_step O ho hn i s, z]
    split <;> (try split) <;> (try split) <;> omega⟩
theorem LP.put {n : Nat} {M : Nat → Nat → Int} (O : MOk M) {one other : Nat} {T : List Tie} (L : LP n M one other T) (ho : other < one) (hn : one < n) (z : 0 < M one other) : LP n M one (other + 1) (T ++ [⟨other, one, M one other⟩]) := by
  have b := O.bd one other
  refine ⟨?_, fun i hi s => ?_⟩
  · have := L.ok.put hn ho (w := M one other) z b.2 (t := ⟨other, one, M one other⟩) (.inr rfl) T.length
    simpa using this
  · rw [nbs_snoc, pulled_app, L.pl i hi s, cell_step O ho hn i s]
    congr 1
    by_cases e1 : i = one
    · have f : far i ⟨other, one, M one other⟩ = some other := by
        unfold far; rw [if_neg (fun z : other = i => Nat.ne_of_lt ho (z.trans e1)), if_pos e1.symm]
      rw [f, if_pos e1]
      simp only
      rw [pulled_cons]
      simp [pulled, pulledL]
    · rw [if_neg e1]
      by_cases e2 : i = other
      · have f : far i ⟨other, one, M one other⟩ = some one := by unfold far; rw [if_pos e2.symm]
        rw [f, if_pos e2]
        simp only
        rw [pulled_cons]
        simp [pulled, pulledL]
      · have f : far i ⟨other, one, M one other⟩ = none := by
          unfold far; rw [if_neg (fun z : other = i => e2 z.symm), if_neg (fun z : one = i => e1 z.symm)]
        rw [f, if_neg e2]
        simp [pulled, pulledL]
theorem LP.step {n : Nat} {M : Nat → Nat → Int} (O : MOk M) {one : Nat} {T : List Tie} (L : LP n M one one T) (h : one < n) (hn : n ≤ 30) : LP n M (one + 1) 0 T :=
  ⟨L.ok.step h hn, fun i hi s => by
    rw [L.pl i hi s]
    refine sumR_congr n fun j _ => ?_
    unfold cellP
    by_cases e : i = one ∧ j = one
    · rw [e.1, e.2, O.no one]; split <;> split <;> rfl
    · have := proc_turn e
      simp only [this]⟩
structure Md (Z n : Nat) (M : Nat → Nat → Int) (bs : List Int) (ss : List (Option Int)) (bk sk : Nat) (h : Hd) : Prop where
  n1 : 1 ≤ n
  n30 : n ≤ 30
  mt : MatH Z n M h
  mo : MOk M
  ba : h[bk]? = some (.lst (bs.map .int))
  st : h[sk]? = some (.lst (ss.map encO))
  lb : bs.length = n
  ls : ss.length = n
  os : ∀ x ∈ ss, x = none ∨ x = some 0 ∨ x = some 1
theorem Md.more {Z n : Nat} {M : Nat → Nat → Int} {bs : List Int} {ss : List (Option Int)} {bk sk : Nat} {h : Hd} (m : Md Z n M bs ss bk sk h) (g : Hd) : Md Z n M bs ss bk sk (h ++ g) := by
  have k : ∀ {i : Nat} {x : Cell}, h[i]? = some x → (h ++ g)[i]? = some x := fun {i x} e => by
    rw [List.getElem?_append_left (List.getElem?_eq_some_iff.mp e).1]; exact e
  exact ⟨m.n1, m.n30, m.mt.more g, m.mo, k m.ba, k m.st, m.lb, m.ls, m.os⟩
theorem lines_ok {Z n : Nat} {M : Nat → Nat → Int} {bs : List Int} {ss : List (Option Int)} {bk sk : Nat} {h : Hd} (m : Md Z n M bs ss bk sk h) :
    ∃ T, F_l_lines [.tup [.ref (Z + n), .ref bk, .ref sk]] h = .ok (.ref h.length) (h ++ [.lst (T.map encT)]) ∧ LP n M n 0 T := by
  have n30 := m.n30
  obtain ⟨td, htd⟩ : ∃ td : D, td = .tup [.ref (Z + n), .ref bk, .ref sk] := ⟨_, rfl⟩
  obtain ⟨A, hA⟩ : ∃ A, A = h.length := ⟨_, rfl⟩
  have t0 : ∀ g, fAt (fVar 0) (fC (.int 0)) (some td :: g) = fun h => .ok (.ref (Z + n)) h := fun g => by
    funext h; rw [htd]
    exact ev_at rfl rfl rfl rfl
  obtain ⟨σ', h', k1, T, a, b, k2, k3, k4⟩ := forL_next (P := fun i σ h' => ∃ (T : List Tie) (a b : Option D), σ = [some td, some (.ref A), a, b] ∧ h' = h ++ [.lst (T.map encT)] ∧ LP n M i 0 T) (g := none) (k := 0)
      (all := (List.range n).map fun k : Nat => D.int k) (fun _ _ _ _ => trivial)
      (xs := (List.range n).map fun k : Nat => D.int k) (tg := gN 2) (σ := [some td, some (.ref A), none, none]) (h := h ++ [.lst []]) (b := B0_l_lines) (by
      rintro i x σ h0 hx ⟨T, a, b, rfl, hh0, L⟩
      obtain ⟨hi, rfl⟩ := range_at' hx
      rw [Nat.zero_add] at L ⊢
      obtain ⟨σ2, h2, j1, T2, b2, j2, j3, j4⟩ := forL_next (P := fun j σ h' => ∃ (T : List Tie) (b : Option D), σ = [some td, some (.ref A), some (.int i), b] ∧ h' = h ++ [.lst (T.map encT)] ∧ LP n M i j T) (g := none) (k := 0)
          (all := (List.range i).map fun k : Nat => D.int k) (fun _ _ _ _ => trivial)
          (xs := (List.range i).map fun k : Nat => D.int k) (tg := gN 3) (σ := [some td, some (.ref A), some (.int i), b]) (h := h0) (b := B1_l_lines) (by
          rintro j x σ h1 hx ⟨T1, b1, rfl, hh1, L1⟩
          obtain ⟨hj, rfl⟩ := range_at' hx
          rw [Nat.zero_add] at L1 ⊢
          have m1 : Md Z n M bs ss bk sk h1 := by rw [hh1]; exact m.more _
          have a1 := ti_at (A := Z) hi
          have r1 := m1.mt.ro i hi
          have v1 := row_at (M := M) (n := n) (i := i) (j := j) (Nat.lt_trans hj hi)
          have ti1 := m1.mt.ti
          have cellE : fAt (fAt (fAt (fVar 0) (fC (.int 0))) (fVar 2)) (fVar 3) [some td, some (.ref A), some (.int i), some (.int j)] h1 = .ok (.int (M i j)) h1 := by
            have e0 := congrFun (t0 [some (.ref A), some (.int i), some (.int j)]) h1
            exact ev_at (ev_at e0 rfl (ev_seq ti1) a1) rfl (ev_seq r1) v1
          have gA : h1[A]? = some (.lst (T1.map encT)) := by rw [hh1]; exact get_end hA _
          have tz : (T1.map encT).length < SZ := by rw [List.length_map]; exact Nat.lt_trans (few L1.ok.len hi n30 hj) (by decide)
          have tt : tE (fBin oGt (fAt (fAt (fAt (fVar 0) (fC (.int 0))) (fVar 2)) (fVar 3)) (fC (.int 0))) [some td, some (.ref A), some (.int i), some (.int j)] h1 = .ok (decide (0 < M i j)) h1 := by
            exact ev_b (ev_bin cellE rfl rfl)
          by_cases c : 0 < M i j
          · refine ⟨_, rfl, [some td, some (.ref A), some (.int i), some (.int j)], h ++ [.lst ((T1 ++ [(⟨j, i, M i j⟩ : Tie)]).map encT)], ?_, T1 ++ [(⟨j, i, M i j⟩ : Tie)], _, rfl, rfl, L1.put m.mo hj hi c⟩
            rw [decide_eq_true c] at tt
            show sIf _ _ _ [some td, some (.ref A), some (.int i), some (.int j)] h1 = _
            rw [if_t tt]
            have st : h1.set A (.lst (T1.map encT ++ [.tup [.int j, .int i, .int (M i j)]])) = h ++ [.lst ((T1 ++ [(⟨j, i, M i j⟩ : Tie)]).map encT)] := by rw [hh1, set_end hA, List.map_append]; rfl
            rw [← st]
            exact ev_exp (ev_app rfl gA (ev_tup (ev_cons rfl (ev_cons rfl (ev_cons cellE rfl)))) gA tz)
          · have z : M i j = 0 := Int.le_antisymm (Int.not_lt.mp c) (m.mo.bd i j).1
            refine ⟨_, rfl, [some td, some (.ref A), some (.int i), some (.int j)], h1, ?_, T1, _, rfl, hh1, L1.skip m.mo hj hi z⟩
            rw [decide_eq_false c] at tt
            show sIf _ _ _ [some td, some (.ref A), some (.int i), some (.int j)] h1 = _
            rw [if_f tt]; rfl) ⟨T, b, rfl, hh0, L⟩
      have e0 : 0 + ((List.range i).map fun k : Nat => D.int k).length = i := by simp
      rw [e0] at j4
      refine ⟨_, rfl, [some td, some (.ref A), some (.int i), b2], h2, ?_, T2, _, _, rfl, j3, j4.step m.mo hi n30⟩
      show sFor _ _ _ [some td, some (.ref A), some (.int i), b] h0 = _
      exact (ev_for (ev_range rfl (Nat.le_trans (Nat.le_of_lt hi) (le30 n30))) j1).trans (by rw [j2])) ⟨[], none, none, rfl, rfl, ⟨⟨by simp, by simp, by simp, by simp, List.Pairwise.nil, by simp⟩, fun i hi s => by
        have : ∀ k, sumR (cellP M s 0 0 i) k = 0 := fun k => by
          induction k with
          | zero => rfl
          | succ k ih => rw [sumR, ih]; have : ¬ proc 0 0 i k := by unfold proc; omega
                         simp [cellP, this]
        rw [this]; rfl⟩⟩
  have e0 : 0 + ((List.range n).map fun k : Nat => D.int k).length = n := by simp
  rw [e0] at k4
  refine ⟨T, ?_, k4⟩
  have s1 : sSet (gN 1) (fNew aNil) [some td, none, none, none] h = .nx [some td, some (.ref A), none, none] (h ++ [.lst []]) := ev_set (new_end hA rfl (Nat.zero_le _))
  have b1 := (m.more [.lst []]).ba
  have ln : fLen (lOf (fAt (fVar 0) (fC (.int 1)))) [some td, some (.ref A), none, none] (h ++ [.lst []]) = .ok (.int n) (h ++ [.lst []]) := by
    rw [htd]
    exact (ev_len (ev_lof (ev_at rfl rfl rfl rfl) (ev_seq b1))).trans (by rw [List.length_map, m.lb])
  have s2 : sFor (iRange (fLen (lOf (fAt (fVar 0) (fC (.int 1)))))) (gN 2) B0_l_lines [some td, some (.ref A), none, none] (h ++ [.lst []]) = .nx [some td, some (.ref A), a, b] (h ++ [.lst (T.map encT)]) := by
    rw [k2, k3] at k1
    exact ev_for (ev_range ln (le30 n30)) k1
  have s3 : sRet (fVar 1) [some td, some (.ref A), a, b] (h ++ [.lst (T.map encT)]) = .rt (.ref A) (h ++ [.lst (T.map encT)]) := ev_ret rfl
  have st : ([td].map some ++ List.replicate (4 - [td].length) none : Sd) = [some td, none, none, none] := rfl
  rw [← htd]
  unfold F_l_lines mkFn runB
  rw [if_pos (by rfl), st, seq_nx' s1, seq_nx' s2, s3, ← hA]
  exact letGo_ref'
end Fm
set_option linter.all false
namespace Fm
section
variable {Z n : Nat} {M : Nat → Nat → Int} {bs : List Int} {ss : List (Option Int)} {bk sk : Nat} {h : Hd}
noncomputable abbrev XT (td : D) (s : List Int) (Z n bk sk : Nat) (a5 a6 a7 a8 : Option D) : Sd := [some td, some (encI s), some (.ref (Z + n)), some (.ref bk), some (.ref sk), a5, a6, a7, a8]
theorem force_eq {T : List Tie} (L : LP n M n 0 T) {s : List Int} (B : BitS s) {i : Nat} (hi : i < n) : sumR (fun j => M i j * s.getD j 0) n = pulled (nbs T i) s := by
  rw [L.pl i hi s]
  refine sumR_congr n fun j hj => ?_
  have p : proc n 0 i j := .inl ⟨hi, hj⟩
  rcases B j with e | e
  · simp only [cellP, e]; simp
  · simp only [cellP, p, e]; simp
theorem made_ok (m : Md Z n M bs ss bk sk h) {T : List Tie} (q : F_l_lines [.tup [.ref (Z + n), .ref bk, .ref sk]] h = .ok (.ref h.length) (h ++ [.lst (T.map encT)])) (L : LP n M n 0 T) :
    F_l_made [.tup [.ref (Z + n), .ref bk, .ref sk]] h = .ok (webOf n T bs ss).enc h := by
  have n30 := m.n30
  obtain ⟨td, htd⟩ : ∃ td : D, td = .tup [.ref (Z + n), .ref bk, .ref sk] := ⟨_, rfl⟩
  have f1 : ∀ g, fAt (fVar 0) (fC (.int 1)) [some td] g = .ok (.ref bk) g := fun g => by
    rw [htd]; exact (ev_at rfl rfl rfl rfl)
  have f2 : ∀ g, fAt (fVar 0) (fC (.int 2)) [some td] g = .ok (.ref sk) g := fun g => by
    rw [htd]; exact (ev_at rfl rfl rfl rfl)
  obtain ⟨h1, hh1⟩ : ∃ h1, h1 = h ++ [Cell.lst (T.map encT)] := ⟨_, rfl⟩
  have m1 : Md Z n M bs ss bk sk h1 := by rw [hh1]; exact m.more _
  obtain ⟨h2, hh2⟩ : ∃ h2, h2 = h1 ++ [Cell.lst (bs.map .int)] := ⟨_, rfl⟩
  have m2 : Md Z n M bs ss bk sk h2 := by rw [hh2]; exact m1.more _
  obtain ⟨h3, hh3⟩ : ∃ h3, h3 = h2 ++ [Cell.lst (ss.map encO)] := ⟨_, rfl⟩
  have old1 : ∀ {k : Nat} {x : Cell}, h1[k]? = some x → h3[k]? = some x := fun {k x} e => by
    have z := (List.getElem?_eq_some_iff.mp e).1
    rw [hh3, hh2, List.append_assoc, List.getElem?_append_left z]; exact e
  have g1 : h3[h.length]? = some (.lst (T.map encT)) := old1 (by rw [hh1]; simp)
  have g2 : h3[h1.length]? = some (.lst (bs.map .int)) := by rw [hh3, hh2]; exact app_at _ List.getElem?_concat_length
  have g3 : h3[h2.length]? = some (.lst (ss.map encO)) := by rw [hh3]; simp
  have wq := web_of_ok m.n1 n30 L.ok m.lb m.ls m.os g1 g2 g3
  have lb : (bs.map D.int).length ≤ SZ := by rw [List.length_map, m.lb]; exact (le30 n30)
  have ls : (ss.map encO).length ≤ SZ := by rw [List.length_map, m.ls]; exact (le30 n30)
  have ba := m.ba
  have ba1 := m1.ba
  have st2 := m2.st
  rw [← htd, ← hh1] at q
  have r : fCall F_web_of (aCons (fLen (lOf (fAt (fVar 0) (fC (.int 1))))) (aCons (fCall F_l_lines (aCons (fVar 0) aNil)) (aCons (fNew (lOf (fAt (fVar 0) (fC (.int 1))))) (aCons (fNew (lOf (fAt (fVar 0) (fC (.int 2))))) aNil)))) [some td] h = .ok (webOf n T bs ss).enc h3 := by
    have e1 : fNew (lOf (fAt (fVar 0) (fC (.int 1)))) [some td] h1 = .ok (.ref h1.length) h2 := by rw [hh2]; exact ev_new (ev_lof (f1 _) (ev_seq ba1)) lb
    have e2 : fNew (lOf (fAt (fVar 0) (fC (.int 2)))) [some td] h2 = .ok (.ref h2.length) h3 := by rw [hh3]; exact ev_new (ev_lof (f2 _) (ev_seq st2)) ls
    have e3 : fLen (lOf (fAt (fVar 0) (fC (.int 1)))) [some td] h = .ok (.int n) h := by
      have := ev_len (ev_lof (f1 h) (ev_seq ba))
      rwa [List.length_map, m.lb] at this
    exact ev_call (ev_cons e3 (ev_cons (ev_call (ev_cons rfl rfl) q) (ev_cons e1 (ev_cons e2 rfl)))) wq
  have fin : letGo h (.ok (webOf n T bs ss).enc h3) = .ok (webOf n T bs ss).enc h := by
    rw [hh3, hh2, hh1, List.append_assoc, List.append_assoc]; exact letGo_pure (pure_web _)
  rw [← htd]
  unfold F_l_made mkFn runB
  rw [if_pos (by rfl)]
  show letGo h (match outE (fCall F_web_of _ [some td] h) _ _ with | .nx _ h => _ | .rt d h => _ | .exc x _ h => _ | _ => _) = _
  rw [r]
  exact fin
theorem mulB {x y : Int} (e : y = 0 ∨ y = 1) (h : Hd) : oMul (.int x) (.int y) h = .ok (.int (x * y)) h := mulS (by rw [bit_sml e, Bool.or_true]) h
theorem force_comp (m : Md Z n M bs ss bk sk h) {s : List Int} (ls : s.length = n) (B : BitS s) {i : Nat} (hi : i < n) (a : Option D) :
    compL none ((List.range n).map fun k : Nat => D.int k) (gN 0) [] (fBin oMul (fAt (fAt (fVar 2) (fVar 3)) (fVar 0)) (fAt (fVar 1) (fVar 0))) ((List.range n).map fun k : Nat => D.int k) [a, some (encI s), some (.ref (Z + n)), some (.int i)] h = .ok (((List.range n).map fun j => M i j * s.getD j 0).map .int) h := by
  have := compL_pure (g := none) (all := (List.range n).map fun k : Nat => D.int k) (tg := gN 0) (cs := []) (e := fBin oMul (fAt (fAt (fVar 2) (fVar 3)) (fVar 0)) (fAt (fVar 1) (fVar 0))) (h := h) (I := fun σ => ∃ a, σ = [a, some (encI s), some (.ref (Z + n)), some (.int i)]) (fun _ => true) (fun d => match d with | .int j => .int (M i j.toNat * s.getD j.toNat 0) | _ => .non) trivial
    (xs := (List.range n).map fun k : Nat => D.int k) (σ := [a, some (encI s), some (.ref (Z + n)), some (.int i)]) (by
      rintro x hx σ ⟨c, rfl⟩
      obtain ⟨j, hj, rfl⟩ := List.mem_map.mp hx
      have hj := List.mem_range.mp hj
      refine ⟨_, rfl, ⟨_, rfl⟩, rfl, fun _ => ?_⟩
      have a1 := ti_at (A := Z) hi
      have r1 := m.mt.ro i hi
      have v1 := row_at (M := M) (n := n) (i := i) hj
      have ti1 := m.mt.ti
      have v2 := getD_at (l := s) (i := j) (ls ▸ hj)
      have e1 : fAt (fAt (fVar 2) (fVar 3)) (fVar 0) [some (.int (j : Nat)), some (encI s), some (.ref (Z + n)), some (.int i)] h = .ok (.int (M i j)) h := by
        exact ev_at (ev_at rfl rfl (ev_seq ti1) a1) rfl (ev_seq r1) v1
      have e2 : fAt (fVar 1) (fVar 0) [some (.int (j : Nat)), some (encI s), some (.ref (Z + n)), some (.int i)] h = .ok (.int (s.getD j 0)) h := by
        exact ev_at rfl rfl rfl v2
      show fBin oMul (fAt (fAt (fVar 2) (fVar 3)) (fVar 0)) (fAt (fVar 1) (fVar 0)) [some (.int (j : Nat)), some (encI s), some (.ref (Z + n)), some (.int i)] h = _
      exact ev_bin e1 e2 (mulB (B j) h)) ⟨_, rfl⟩
  rw [this, List.filter_eq_self.mpr (by simp), List.map_map, List.map_map]
  rfl
theorem turn_y (m : Md Z n M bs ss bk sk h) {T : List Tie} (L : LP n M n 0 T) {s : List Int} (ls : s.length = n) (B : BitS s) :
    F_l_turn [.tup [.ref (Z + n), .ref bk, .ref sk], encI s] h = .ok (encI (turnS (webOf n T bs ss) n s)) h := by
  have n30 := m.n30
  obtain ⟨w, hw⟩ : ∃ w, w = webOf n T bs ss := ⟨_, rfl⟩
  obtain ⟨td, htd⟩ : ∃ td : D, td = .tup [.ref (Z + n), .ref bk, .ref sk] := ⟨_, rfl⟩
  obtain ⟨A, hA⟩ : ∃ A, A = h.length := ⟨_, rfl⟩
  obtain ⟨σ', h', k1, x6, x7, x8, k2, k3⟩ := forL_next (P := fun i σ h' => ∃ (a b c : Option D), σ = (XT td s Z n bk sk (some (.ref A)) a b c) ∧ h' = h ++ [.lst (((List.range i).map (nextI w s)).map .int)]) (g := none) (k := 0)
      (all := (List.range n).map fun k : Nat => D.int k) (fun _ _ _ _ => trivial)
      (xs := (List.range n).map fun k : Nat => D.int k) (tg := gN 6) (σ := (XT td s Z n bk sk (some (.ref A)) none none none)) (h := h ++ [.lst []]) (b := B0_l_turn) (by
      rintro i x σ h0 hx ⟨a, b, c, rfl, hh0⟩
      obtain ⟨hi, rfl⟩ := range_at' hx
      rw [Nat.zero_add] at hh0 ⊢
      have m0 : Md Z n M bs ss bk sk h0 := by rw [hh0]; exact m.more _
      have fc := force_comp m0 ls B hi none
      have v2 := getD_at (l := s) (i := i) (ls ▸ hi)
      have l3 : i < ss.length := by rw [m.ls]; exact hi
      have v3 := getD_at (l := bs) (i := i) (m.lb ▸ hi)
      have v4 : atI (ss.map encO) (i : Int) = some (encO (ss.getD i none)) := by rw [at_map' l3]; simp [List.getD, l3]
      have ba := m0.ba
      have st := m0.st
      have nx := webOf_next (T := T) (bs := bs) (ss := ss) (s := s) hi
      rw [← hw] at nx
      obtain ⟨P, hP⟩ : ∃ P, P = pulled (nbs T i) s := ⟨_, rfl⟩
      have fe := force_eq L B hi
      rw [← hP] at fe nx
      have sm : intsD (((List.range n).map fun j => M i j * s.getD j 0).map .int) = some ((List.range n).map fun j => M i j * s.getD j 0) := intsD_map _
      have su : ((List.range n).map fun j => M i j * s.getD j 0).sum = P := by rw [sum_range]; exact fe
      generalize (List.range n).map (fun j => M i j * s.getD j 0) = FL at fc sm su
      have s1 : sSet (gN 7) (fBin oMul (fC (.int 2)) (fSum (lComp 1 [1, 2, 6] (iRange (fLen (lOf (fVar 3)))) (gN 0) [] (fBin oMul (fAt (fAt (fVar 2) (fVar 3)) (fVar 0)) (fAt (fVar 1) (fVar 0)))))) (XT td s Z n bk sk (some (.ref A)) (some (.int i)) b c) h0 = .nx (XT td s Z n bk sk (some (.ref A)) (some (.int i)) (some (.int (2 * P))) c) h0 := by
        have ss2 : fSum (lComp 1 [1, 2, 6] (iRange (fLen (lOf (fVar 3)))) (gN 0) [] (fBin oMul (fAt (fAt (fVar 2) (fVar 3)) (fVar 0)) (fAt (fVar 1) (fVar 0)))) (XT td s Z n bk sk (some (.ref A)) (some (.int i)) b c) h0 = .ok (.int P) h0 := by
          rw [← su]
          have ln := ev_len (ev_lof (a := fVar 3) (σ := (XT td s Z n bk sk (some (.ref A)) (some (.int i)) b c)) rfl (ev_seq ba))
          rw [List.length_map, m.lb] at ln
          exact ev_sum (ev_comp (ev_range ln (le30 n30)) fc) sm
        exact ev_set (ev_bin rfl ss2 (ev_mul1 (by decide)))
      generalize ss.getD i none = u at v4 nx
      generalize bs.getD i 0 = bb at v3 nx
      generalize s.getD i 0 = x at v2 nx
      generalize 2 * P = F at s1 nx
      obtain ⟨y1, hy1⟩ : ∃ y1 : Int, y1 = if bb < F then 1 else x := ⟨_, rfl⟩
      obtain ⟨y2, hy2⟩ : ∃ y2 : Int, y2 = if F < bb then 0 else y1 := ⟨_, rfl⟩
      obtain ⟨y3, hy3⟩ : ∃ y3 : Int, y3 = u.getD y2 := ⟨_, rfl⟩
      have ny : nextI w s i = y3 := by
        rw [nx, hy3]
        cases u with
        | some z => rfl
        | none =>
          simp only [Option.getD_none]
          rw [hy2, hy1]
          split <;> split <;> (try split) <;> omega
      have s2 : sSet (gN 8) (fAt (fVar 1) (fVar 6)) (XT td s Z n bk sk (some (.ref A)) (some (.int i)) (some (.int F)) c) h0 = .nx (XT td s Z n bk sk (some (.ref A)) (some (.int i)) (some (.int F)) (some (.int x))) h0 := ev_set (ev_at rfl rfl rfl v2)
      have s3 : sIf (tE (fBin oGt (fVar 7) (fAt (fVar 3) (fVar 6)))) (sSet (gN 8) (fC (.int 1))) sNil (XT td s Z n bk sk (some (.ref A)) (some (.int i)) (some (.int F)) (some (.int x))) h0 = .nx (XT td s Z n bk sk (some (.ref A)) (some (.int i)) (some (.int F)) (some (.int y1))) h0 := by
        rw [hy1]
        by_cases e : bb < F
        · rw [if_pos e]; exact (ev_t (ev_b (ev_bin rfl (ev_at rfl rfl (ev_seq ba) v3) (ev_gtt e)))).trans (ev_set rfl)
        · rw [if_neg e]; exact ev_f (ev_b (ev_bin rfl (ev_at rfl rfl (ev_seq ba) v3) (ev_gtf e)))
      have s4 : sIf (tE (fBin oLt (fVar 7) (fAt (fVar 3) (fVar 6)))) (sSet (gN 8) (fC (.int 0))) sNil (XT td s Z n bk sk (some (.ref A)) (some (.int i)) (some (.int F)) (some (.int y1))) h0 = .nx (XT td s Z n bk sk (some (.ref A)) (some (.int i)) (some (.int F)) (some (.int y2))) h0 := by
        rw [hy2]
        by_cases e : F < bb
        · rw [if_pos e]; exact (ev_t (ev_b (ev_bin rfl (ev_at rfl rfl (ev_seq ba) v3) (ev_ltt e)))).trans (ev_set rfl)
        · rw [if_neg e]; exact ev_f (ev_b (ev_bin rfl (ev_at rfl rfl (ev_seq ba) v3) (ev_ltf e)))
      have s5 : sIf (tE (fBin oIsNotN (fAt (fVar 4) (fVar 6)) (fC .non))) (sSet (gN 8) (fAt (fVar 4) (fVar 6))) sNil (XT td s Z n bk sk (some (.ref A)) (some (.int i)) (some (.int F)) (some (.int y2))) h0 = .nx (XT td s Z n bk sk (some (.ref A)) (some (.int i)) (some (.int F)) (some (.int y3))) h0 := by
        rw [hy3]
        cases u with
        | none => exact ev_f (ev_b (ev_bin (ev_at rfl rfl (ev_seq st) v4) rfl rfl))
        | some z => exact (ev_t (ev_b (ev_bin (ev_at rfl rfl (ev_seq st) v4) rfl rfl))).trans (ev_set (ev_at rfl rfl (ev_seq st) v4))
      have gA : h0[A]? = some (.lst (((List.range i).map (nextI w s)).map .int)) := by rw [hh0]; exact get_end hA _
      have lz : (((List.range i).map (nextI w s)).map D.int).length < SZ := by rw [List.length_map, List.length_map, List.length_range]; exact Nat.lt_trans hi (Nat.lt_of_le_of_lt n30 (by decide))
      have st6 : h0.set A (.lst (((List.range i).map (nextI w s)).map .int ++ [.int y3])) = h ++ [.lst (((List.range (i + 1)).map (nextI w s)).map .int)] := by
        rw [hh0, set_end hA, List.range_succ, ← ny, List.map_append, List.map_append]; rfl
      have s6 : sExp (fApp (fVar 5) (fVar 8)) (XT td s Z n bk sk (some (.ref A)) (some (.int i)) (some (.int F)) (some (.int y3))) h0 = .nx (XT td s Z n bk sk (some (.ref A)) (some (.int i)) (some (.int F)) (some (.int y3))) (h ++ [.lst (((List.range (i + 1)).map (nextI w s)).map .int)]) := by
        rw [← st6]
        exact ev_exp (ev_app rfl gA rfl gA lz)
      refine ⟨_, rfl, (XT td s Z n bk sk (some (.ref A)) (some (.int i)) (some (.int F)) (some (.int y3))), _, ?_, _, _, _, rfl, rfl⟩
      show sSeq _ _ (XT td s Z n bk sk (some (.ref A)) (some (.int i)) b c) h0 = _
      rw [seq_nx' s1, seq_nx' s2, seq_nx' s3, seq_nx' s4, seq_nx' s5, s6]) ⟨none, none, none, rfl, by simp⟩
  have e0 : 0 + ((List.range n).map fun k : Nat => D.int k).length = n := by simp
  rw [e0] at k3
  have b1 := (m.more [.lst []]).ba
  have s1 : sSet (gT [2, 3, 4]) (fVar 0) [some td, some (encI s), none, none, none, none, none, none, none] h = .nx (XT td s Z n bk sk none none none none) h := by rw [htd]; rfl
  have s2 : sSet (gN 5) (fNew aNil) (XT td s Z n bk sk none none none none) h = .nx (XT td s Z n bk sk (some (.ref A)) none none none) (h ++ [.lst []]) := ev_set (new_end hA rfl (Nat.zero_le _))
  have s3 : sFor (iRange (fLen (lOf (fVar 3)))) (gN 6) B0_l_turn (XT td s Z n bk sk (some (.ref A)) none none none) (h ++ [.lst []]) = .nx (XT td s Z n bk sk (some (.ref A)) x6 x7 x8) (h ++ [.lst ((turnS w n s).map .int)]) := by
    rw [k2, k3] at k1
    have ln : fLen (lOf (fVar 3)) (XT td s Z n bk sk (some (.ref A)) none none none) (h ++ [.lst []]) = .ok (.int n) (h ++ [.lst []]) := by
      exact (ev_len (ev_lof rfl (ev_seq b1))).trans (by rw [List.length_map, m.lb])
    exact ev_for (ev_range ln (le30 n30)) k1
  have s4 : sRet (fTupL (lOf (fVar 5))) (XT td s Z n bk sk (some (.ref A)) x6 x7 x8) (h ++ [.lst ((turnS w n s).map .int)]) = .rt (encI (turnS w n s)) (h ++ [.lst ((turnS w n s).map .int)]) := by
    exact ev_ret (ev_tupL (ev_lof rfl (ev_seq (get_end hA _))))
  have st : ([td, encI s].map some ++ List.replicate (9 - [td, encI s].length) none : Sd) = [some td, some (encI s), none, none, none, none, none, none, none] := rfl
  rw [← htd, ← hw]
  unfold F_l_turn mkFn runB
  rw [if_pos (by rfl), st, seq_nx' s1, seq_nx' s2, seq_nx' s3, s4]
  exact letGo_pure (pure_encI _)
noncomputable def fitL (ss : List (Option Int)) (l : List Int) : List Int := (List.range l.length).map fun i => (ss.getD i none).getD (l.getD i 0)
theorem fitting_ok (m : Md Z n M bs ss bk sk h) {l : List Int} (ll : l.length = n) {k : Nat} (hk : h[k]? = some (.lst (l.map .int))) :
    F_l_fitting [.tup [.ref (Z + n), .ref bk, .ref sk], .ref k] h = .ok (encI (fitL ss l)) h := by
  have n30 := m.n30
  obtain ⟨td, htd⟩ : ∃ td : D, td = .tup [.ref (Z + n), .ref bk, .ref sk] := ⟨_, rfl⟩
  obtain ⟨A, hA⟩ : ∃ A, A = h.length := ⟨_, rfl⟩
  obtain ⟨f, hf⟩ : ∃ f : Nat → Int, f = fun i => (ss.getD i none).getD (l.getD i 0) := ⟨_, rfl⟩
  have hkl : k < h.length := (List.getElem?_eq_some_iff.mp hk).1
  obtain ⟨σ', h', k1, x3, k2, k3⟩ := forL_next (P := fun i σ h' => ∃ (a : Option D), σ = [some td, some (.ref k), some (.ref A), a] ∧ h' = h ++ [.lst (((List.range i).map f).map .int)]) (g := none) (k := 0)
      (all := (List.range n).map fun k : Nat => D.int k) (fun _ _ _ _ => trivial)
      (xs := (List.range n).map fun k : Nat => D.int k) (tg := gN 3) (σ := [some td, some (.ref k), some (.ref A), none]) (h := h ++ [.lst []]) (b := B0_l_fitting) (by
      rintro i x σ h0 hx ⟨a, rfl, hh0⟩
      obtain ⟨hi, rfl⟩ := range_at' hx
      rw [Nat.zero_add] at hh0 ⊢
      have m0 : Md Z n M bs ss bk sk h0 := by rw [hh0]; exact m.more _
      have gk : h0[k]? = some (.lst (l.map .int)) := by rw [hh0, List.getElem?_append_left hkl]; exact hk
      have l3 : i < ss.length := by rw [m.ls]; exact hi
      have v2 := getD_at (l := l) (i := i) (ll ▸ hi)
      have v4 : atI (ss.map encO) (i : Int) = some (encO (ss.getD i none)) := by rw [at_map' l3]; simp [List.getD, l3]
      have fi : f i = (ss.getD i none).getD (l.getD i 0) := by rw [hf]
      generalize l.getD i 0 = x at v2 fi
      generalize ss.getD i none = u at v4 fi
      have gA : h0[A]? = some (.lst (((List.range i).map f).map .int)) := by rw [hh0]; exact get_end hA _
      have lz : (((List.range i).map f).map D.int).length < SZ := by rw [List.length_map, List.length_map, List.length_range]; exact Nat.lt_trans hi (Nat.lt_of_le_of_lt n30 (by decide))
      have st1 : h0.set A (.lst (((List.range i).map f).map .int ++ [.int x])) = h ++ [.lst (((List.range i).map f ++ [x]).map .int)] := by rw [hh0, set_end hA, List.map_append]; rfl
      have s1 : sExp (fApp (fVar 2) (fAt (fVar 1) (fVar 3))) [some td, some (.ref k), some (.ref A), some (.int i)] h0 = .nx [some td, some (.ref k), some (.ref A), some (.int i)] (h ++ [.lst (((List.range i).map f ++ [x]).map .int)]) := by
        rw [← st1]
        exact ev_exp (ev_app rfl gA (ev_at rfl rfl (ev_seq gk) v2) gA lz)
      obtain ⟨h1, hh1⟩ : ∃ h1, h1 = h ++ [Cell.lst (((List.range i).map f ++ [x]).map .int)] := ⟨_, rfl⟩
      have m1 : Md Z n M bs ss bk sk h1 := by rw [hh1]; exact m.more _
      have f2 : fAt (fAt (fVar 0) (fC (.int 2))) (fVar 3) [some td, some (.ref k), some (.ref A), some (.int i)] h1 = .ok (encO u) h1 := by
        have st := m1.st
        rw [htd]
        exact ev_at (ev_at rfl rfl rfl rfl) rfl (ev_seq st) v4
      have g1 : h1[A]? = some (.lst (((List.range i).map f ++ [x]).map .int)) := by rw [hh1]; exact get_end hA _
      have s2 : sIf (tE (fBin oIsNotN (fAt (fAt (fVar 0) (fC (.int 2))) (fVar 3)) (fC .non))) (sPut (fVar 2) (fVar 3) (fAt (fAt (fVar 0) (fC (.int 2))) (fVar 3))) sNil [some td, some (.ref k), some (.ref A), some (.int i)] h1 = .nx [some td, some (.ref k), some (.ref A), some (.int i)] (h ++ [.lst (((List.range (i + 1)).map f).map .int)]) := by
        have lst : ((List.range i).map f).length = i := by simp
        cases u with
        | none =>
          have e : h1 = h ++ [.lst (((List.range (i + 1)).map f).map .int)] := by rw [hh1, List.range_succ]; simp [fi]
          rw [← e]
          exact ev_f (ev_b (ev_bin f2 rfl rfl))
        | some z =>
          have ix : ixN (((List.range i).map f ++ [x]).map D.int).length (i : Int) = some i := ixN_nat (by rw [List.length_map, List.length_append, lst]; exact Nat.lt_succ_self _)
          have e : h1.set A (.lst ((((List.range i).map f ++ [x]).map .int).set i (.int z))) = h ++ [.lst (((List.range (i + 1)).map f).map .int)] := by
            have z' : f i = z := fi
            rw [hh1, hA, List.range_succ]
            simp [z', List.set_append_right]
          rw [← e]
          exact (ev_t (ev_b (ev_bin f2 rfl rfl))).trans (ev_put f2 rfl rfl g1 ix)
      refine ⟨_, rfl, [some td, some (.ref k), some (.ref A), some (.int i)], _, ?_, _, rfl, rfl⟩
      show sSeq _ _ [some td, some (.ref k), some (.ref A), some (.int i)] h0 = _
      rw [seq_nx' s1, ← hh1, s2]) ⟨none, rfl, by simp⟩
  have e0 : 0 + ((List.range n).map fun k : Nat => D.int k).length = n := by simp
  rw [e0] at k3
  have hk2 : (h ++ [Cell.lst []])[k]? = some (.lst (l.map .int)) := by rw [List.getElem?_append_left hkl]; exact hk
  have s1 : sSet (gN 2) (fNew aNil) [some td, some (.ref k), none, none] h = .nx [some td, some (.ref k), some (.ref A), none] (h ++ [.lst []]) := ev_set (new_end hA rfl (Nat.zero_le _))
  have s2 : sFor (iRange (fLen (lOf (fVar 1)))) (gN 3) B0_l_fitting [some td, some (.ref k), some (.ref A), none] (h ++ [.lst []]) = .nx [some td, some (.ref k), some (.ref A), x3] (h ++ [.lst ((fitL ss l).map .int)]) := by
    rw [k2, k3] at k1
    have ln : fLen (lOf (fVar 1)) [some td, some (.ref k), some (.ref A), none] (h ++ [.lst []]) = .ok (.int n) (h ++ [.lst []]) := by
      exact (ev_len (ev_lof rfl (ev_seq hk2))).trans (by rw [List.length_map, ll])
    exact (ev_for (ev_range ln (le30 n30)) k1).trans (by rw [fitL, ll, hf])
  have s3 : sRet (fTupL (lOf (fVar 2))) [some td, some (.ref k), some (.ref A), x3] (h ++ [.lst ((fitL ss l).map .int)]) = .rt (encI (fitL ss l)) (h ++ [.lst ((fitL ss l).map .int)]) := by
    exact ev_ret (ev_tupL (ev_lof rfl (ev_seq (get_end hA _))))
  have st : ([td, D.ref k].map some ++ List.replicate (4 - [td, D.ref k].length) none : Sd) = [some td, some (.ref k), none, none] := rfl
  rw [← htd]
  unfold F_l_fitting mkFn runB
  rw [if_pos (by rfl), st, seq_nx' s1, seq_nx' s2, s3]
  exact letGo_pure (pure_encI _)
theorem fitL_at (ss : List (Option Int)) (l : List Int) (i : Nat) (hi : i < l.length) : (fitL ss l).getD i 0 = (ss.getD i none).getD (l.getD i 0) := by
  simp [fitL, List.getD, hi]
theorem fitL_fit (ls : ss.length = n) (os : ∀ x ∈ ss, x = none ∨ x = some 0 ∨ x = some 1) {l : List Int} (ll : l.length = n) (B : BitS l) : FitS n ss (fitL ss l) := by
  refine ⟨by simp [fitL, ll], fun x hx => ?_, fun i x e => ?_⟩
  · obtain ⟨i, hi, rfl⟩ := List.mem_map.mp hx
    have b := B i
    cases c : ss.getD i none with
    | none => simpa using b
    | some z =>
      have : some z ∈ ss := by
        rw [List.getD] at c
        cases e : ss[i]? with
        | none => rw [e] at c; cases c
        | some y => rw [e] at c; simp at c; subst c; exact List.mem_of_getElem? e
      have := os _ this
      simp at this
      simpa using this
  · have hi : i < l.length := by rw [ll, ← ls]; exact (List.getElem?_eq_some_iff.mp e).1
    simp [fitL, hi, List.getD, e]
theorem fitL_le {l l' : List Int} (ll : l.length = n) (ll' : l'.length = n) (le : LeS l l') : LeS (fitL ss l) (fitL ss l') := fun i => by
  by_cases hi : i < n
  · rw [fitL_at _ _ _ (by omega), fitL_at _ _ _ (by omega)]
    cases ss.getD i none with
    | none => exact le i
    | some z => exact Int.le_refl _
  · simp [List.getD, List.getElem?_eq_none (show (fitL ss l).length ≤ i by simp [fitL]; omega), List.getElem?_eq_none (show (fitL ss l').length ≤ i by simp [fitL]; omega)]
end
theorem ybelow {n : Nat} {a b : List Int} (hn : n ≤ 1000) (la : a.length = n) (lb : b.length = n) (le : LeS a b) (h : Hd) : F_l_below [encI a, encI b] h = .ok (.bl true) h := by
  have key : compL none ((List.range n).map fun k : Nat => D.int k) (gN 0) [(tE (fBin oGt (fAt (fVar 1) (fVar 0)) (fAt (fVar 2) (fVar 0))))] (fVar 0) ((List.range n).map fun k : Nat => D.int k) [none, some (encI a), some (encI b)] h = .ok [] h := by
    have := compL_pure (g := none) (all := (List.range n).map fun k : Nat => D.int k) (tg := gN 0) (cs := [(tE (fBin oGt (fAt (fVar 1) (fVar 0)) (fAt (fVar 2) (fVar 0))))]) (e := fVar 0) (h := h) (I := fun σ => ∃ c, σ = [c, some (encI a), some (encI b)]) (fun _ => false) (fun d => d) trivial
      (xs := (List.range n).map fun k : Nat => D.int k) (σ := [none, some (encI a), some (encI b)]) (by
        rintro x hx σ ⟨c0, rfl⟩
        obtain ⟨i, hi, rfl⟩ := List.mem_map.mp hx
        have hi := List.mem_range.mp hi
        have h1 : i < a.length := by omega
        have h2 : i < b.length := by omega
        have l := le i
        simp only [List.getD, List.getElem?_eq_getElem h1, List.getElem?_eq_getElem h2, Option.getD_some] at l
        have c : ¬ b[i] < a[i] := by omega
        refine ⟨_, rfl, ⟨_, rfl⟩, ?_, fun z => by cases z⟩
        have te : tE (fBin oGt (fAt (fVar 1) (fVar 0)) (fAt (fVar 2) (fVar 0))) [some (.int (i : Nat)), some (encI a), some (encI b)] h = .ok false h := ev_b (ev_bin (ev_at rfl rfl rfl (at_enc h1)) (ev_at rfl rfl rfl (at_enc h2)) (ev_gtf c))
        show Res.bind _ _ = _
        rw [show tE (fBin oGt (fAt (fVar 1) (fVar 0)) (fAt (fVar 2) (fVar 0))) (List.set [c0, some (encI a), some (encI b)] 0 (some (.int (i : Nat)))) h = .ok false h from te]
        rfl) ⟨_, rfl⟩
    have fe : ∀ l : List D, l.filter (fun _ => false) = [] := fun l => List.filter_eq_nil_iff.mpr (by simp)
    rw [fe] at this
    exact this
  have e1 : fNew (lComp 1 [0, 1] (iRange (fLen (lOf (fVar 0)))) (gN 0) [(tE (fBin oGt (fAt (fVar 1) (fVar 0)) (fAt (fVar 2) (fVar 0))))] (fVar 0)) [some (encI a), some (encI b)] h = .ok (.ref h.length) (h ++ [.lst []]) := by
    have ln : fLen (lOf (fVar 0)) [some (encI a), some (encI b)] h = .ok (.int n) h := (ev_len (ev_lof rfl rfl)).trans (by rw [List.length_map, la])
    exact ev_new (ev_comp (ev_range ln hn) key) (Nat.zero_le _)
  have e2 : oEq (.ref h.length) (.ref (h.length + 1)) (h ++ [.lst [], .lst []]) = .ok (.bl true) (h ++ [.lst [], .lst []]) := by
    have g1 : (h ++ [Cell.lst [], .lst []])[h.length]? = some (.lst []) := by simp
    have g2 : (h ++ [Cell.lst [], .lst []])[h.length + 1]? = some (.lst []) := by rw [List.getElem?_append_right (by omega)]; simp
    simp [eqL, peqs, deps, g2]
  have e3 : fBin oEq (fNew (lComp 1 [0, 1] (iRange (fLen (lOf (fVar 0)))) (gN 0) [(tE (fBin oGt (fAt (fVar 1) (fVar 0)) (fAt (fVar 2) (fVar 0))))] (fVar 0))) (fNew aNil) [some (encI a), some (encI b)] h = .ok (.bl true) (h ++ [.lst [], .lst []]) := by
    have e4 : fNew aNil [some (encI a), some (encI b)] (h ++ [.lst []]) = .ok (.ref (h.length + 1)) (h ++ [.lst [], .lst []]) := by
      have := ev_new (r := aNil) (σ := [some (encI a), some (encI b)]) (h := h ++ [.lst []]) rfl (Nat.zero_le _)
      rwa [List.length_append, List.append_assoc] at this
    exact ev_bin e1 e4 e2
  unfold F_l_below mkFn runB
  rw [if_pos (by rfl)]
  show letGo h (match outE (fBin oEq _ _ [some (encI a), some (encI b)] h) _ _ with | .nx _ h => _ | .rt d h => _ | .exc x _ h => _ | _ => _) = _
  rw [e3]
  exact letGo_pure rfl
end Fm
set_option linter.all false
namespace Fm
noncomputable abbrev B0_l_far : SF := (sSeq (sSet (gN 2) (fCall F_l_turn (aCons (fVar 0) (aCons (fVar 2) aNil))))
    (sSet (gN 3) (fBin oAdd (fVar 3) (fC (.int 1)))))
noncomputable def F_l_far : Fn := mkFn 2 4 (sSeq (sSet (gN 2) (fCall F_l_fitting (aCons (fVar 0) (aCons (fNew (lRep (aCons (fVar 1) aNil) (fLen (lOf (fAt (fVar 0) (fC (.int 1))))))) aNil))))
    (sSeq (sSet (gN 3) (fC (.int 0)))
    (sSeq (sWhile (tE (fBin oNe (fCall F_l_turn (aCons (fVar 0) (aCons (fVar 2) aNil))) (fVar 2))) B0_l_far)
    (sRet (fVar 3)))))
noncomputable abbrev B0_l_calm : SF := (sSeq (sSet (gN 3) (fCall F_l_turn (aCons (fVar 0) (aCons (fVar 1) aNil))))
    (sSeq (sIf (tE (fBin oEq (fVar 3) (fVar 1))) (sRet (fVar 1)) sNil)
    (sSet (gN 1) (fVar 3))))
noncomputable def F_l_calm : Fn := mkFn 2 4 (sSeq (sFor (iRange (fC (.int 40))) (gN 2) B0_l_calm)
    (sRet (fC .non)))
noncomputable def F_l_bounds_right : Fn := mkFn 4 6 (sSeq (sIf (tOr (tE (fBin oIsN (fVar 2) (fC .non))) (tE (fBin oIsN (fVar 3) (fC .non)))) (sRet (fC (.bl true))) sNil)
    (sSeq (sSet (gN 4) (fCall F_l_calm (aCons (fVar 0) (aCons (fTupL (lComp 1 [2, 3] (iRange (fLen (lOf (fVar 2)))) (gN 0) [] (fMax (fAt (fVar 1) (fVar 0)) (fAt (fVar 2) (fVar 0))))) aNil))))
    (sSeq (sSet (gN 5) (fCall F_l_calm (aCons (fVar 0) (aCons (fTupL (lComp 1 [2, 3] (iRange (fLen (lOf (fVar 2)))) (gN 0) [] (fMin (fAt (fVar 1) (fVar 0)) (fAt (fVar 2) (fVar 0))))) aNil))))
    (sRet (fT (tAnd (tE (fBin oEq (fCall F_joined (aCons (fVar 1) (aCons (fVar 2) (aCons (fVar 3) aNil)))) (fVar 4))) (tE (fBin oEq (fCall F_met (aCons (fVar 1) (aCons (fVar 2) (aCons (fVar 3) aNil)))) (fVar 5)))))))))
noncomputable abbrev L0_law : SF := (sSet (gN 1) (fCall F_l_model (aCons (fVar 0) (aCons (fC (.int 30)) aNil))))
noncomputable abbrev L1_law : SF := (sSet (gN 2) (fLen (lOf (fAt (fVar 1) (fC (.int 1))))))
noncomputable abbrev L2_law : SF := (sSet (gN 3) (fCall F_l_made (aCons (fVar 1) aNil)))
noncomputable abbrev L3_law : SF := (sSet (gN 4) (fCall F_l_cell (aCons (fVar 0) (aCons (fC (.int 0)) aNil))))
noncomputable abbrev L4_law : SF := (sSet (gN 5) (fCall F_l_row (aCons (fCall F_l_cell (aCons (fVar 0) (aCons (fC (.int 4)) aNil))) (aCons (fVar 4) (aCons (fVar 2) (aCons (fC (.int 3)) aNil))))))
noncomputable abbrev L5_law : SF := (sSet (gN 6) (fCall F_l_fitting (aCons (fVar 1) (aCons (fNew (lComp 1 [] (iSeq (fVar 5)) (gN 0) [] (fInt (fBin oEq (fVar 0) (fC (.int 2)))))) aNil))))
noncomputable abbrev L6_law : SF := (sSet (gN 7) (fCall F_l_fitting (aCons (fVar 1) (aCons (fNew (lComp 1 [] (iSeq (fVar 5)) (gN 0) [] (fInt (fBin oGt (fVar 0) (fC (.int 0)))))) aNil))))
noncomputable abbrev L7_law : SF := (sSet (gN 8) (fTup (aCons (fCall F_least_rest (aCons (fVar 3) aNil)) (aCons (fCall F_greatest_rest (aCons (fVar 3) aNil)) aNil))))
noncomputable abbrev L8_law : SF := (sSet (gN 9) (fMax (fCall F_l_far (aCons (fVar 1) (aCons (fC (.int 0)) aNil))) (fCall F_l_far (aCons (fVar 1) (aCons (fC (.int 1)) aNil)))))
noncomputable abbrev L9_law : SF := (sSet (gN 10) (fNew (aCons (fCall F_history (aCons (fVar 3) (aCons (fVar 6) (aCons (fBin oAdd (fVar 9) (fC (.int 3))) aNil)))) (aCons (fCall F_history (aCons (fVar 3) (aCons (fVar 7) (aCons (fBin oAdd (fVar 9) (fC (.int 3))) aNil)))) aNil))))
noncomputable abbrev B0_law : SF := (sSeq (sIf (tNot (tE (fCall F_l_below (aCons (fAt (fAt (fVar 10) (fC (.int 0))) (fVar 11)) (aCons (fAt (fAt (fVar 10) (fC (.int 1))) (fVar 11)) aNil))))) (sRet (fC (.bl false))) sNil)
    (sSeq (sIf (tAnd (tE (fBin oGe (fVar 11) (fVar 9))) (tNot (tE (fCall F_l_below (aCons (fAt (fVar 8) (fC (.int 0))) (aCons (fAt (fAt (fVar 10) (fC (.int 0))) (fVar 11)) aNil)))))) (sRet (fC (.bl false))) sNil)
    (sIf (tAnd (tE (fBin oGe (fVar 11) (fVar 9))) (tNot (tE (fCall F_l_below (aCons (fAt (fAt (fVar 10) (fC (.int 1))) (fVar 11)) (aCons (fAt (fVar 8) (fC (.int 1))) aNil)))))) (sRet (fC (.bl false))) sNil)))
noncomputable abbrev L10_law : SF := (sFor (iRange (fBin oAdd (fVar 9) (fC (.int 4)))) (gN 11) B0_law)
noncomputable abbrev B1_law : SF := (sSeq (sSet (gN 13) (fCall F_ended (aCons (fVar 3) (aCons (fVar 12) aNil))))
    (sIf (tOr (tE (fBin oNe (fAt (fVar 13) (fC (.int 1))) (fC (.str [114, 101, 115, 116])))) (tE (fBin oNe (fAt (fAt (fVar 13) (fC (.int 2))) (fC (.int (-1)))) (fAt (fVar 8) (fC (.int 0)))))) (sRet (fC (.bl false))) sNil))
noncomputable abbrev L11_law : SF := (sIf (tE (fBin oEq (fAt (fVar 8) (fC (.int 0))) (fAt (fVar 8) (fC (.int 1))))) (sFor (iNew (aCons (fVar 6) (aCons (fVar 7) aNil))) (gN 12) B1_law) sNil)
noncomputable abbrev L12_law : SF := (sSet (gN 14) (fCall F_l_fitting (aCons (fVar 1) (aCons (fNew (lComp 1 [] (iSeq (fVar 5)) (gN 0) [] (fInt (fBin oEq (fVar 0) (fC (.int 1)))))) aNil))))
noncomputable abbrev L13_law : SF := (sIf (tNot (tE (fCall F_l_bounds_right (aCons (fVar 1) (aCons (fVar 3) (aCons (fCall F_l_calm (aCons (fVar 1) (aCons (fVar 6) aNil))) (aCons (fCall F_l_calm (aCons (fVar 1) (aCons (fVar 14) aNil))) aNil))))))) (sRet (fC (.bl false))) sNil)
noncomputable abbrev L14_law : SF := (sRet (fT (tAnd (tE (fBin oEq (fCall F_joined (aCons (fVar 3) (aCons (fAt (fVar 8) (fC (.int 0))) (aCons (fAt (fVar 8) (fC (.int 1))) aNil)))) (fAt (fVar 8) (fC (.int 1))))) (tE (fBin oEq (fCall F_met (aCons (fVar 3) (aCons (fAt (fVar 8) (fC (.int 1))) (aCons (fAt (fVar 8) (fC (.int 0))) aNil)))) (fAt (fVar 8) (fC (.int 0))))))))
noncomputable def F_law : Fn := mkFn 1 15 (sSeq L0_law (sSeq L1_law (sSeq L2_law (sSeq L3_law (sSeq L4_law (sSeq L5_law (sSeq L6_law (sSeq L7_law (sSeq L8_law (sSeq L9_law (sSeq L10_law (sSeq L11_law (sSeq L12_law (sSeq L13_law L14_law))))))))))))))
end Fm
set_option linter.all false
namespace Fm
theorem least_run {w : Web} {n : Nat} {s : List Int} {t : Nat} (h : hist w n s (t + 1) = hist w n s t) : ∃ r, r ≤ t ∧ hist w n s (r + 1) = hist w n s r ∧ (∀ k, k < r → hist w n s (k + 1) ≠ hist w n s k) ∧ hist w n s r = hist w n s t := by
  have mn : ∃ k, hist w n s (k + 1) = hist w n s k ∧ ∀ j, j < k → hist w n s (j + 1) ≠ hist w n s j := by
    have ex : ∃ k, hist w n s (k + 1) = hist w n s k := ⟨t, h⟩
    obtain ⟨k, hk⟩ := ex
    induction k using Nat.strongRecOn with
    | _ k ih =>
      by_cases c : ∃ j, j < k ∧ hist w n s (j + 1) = hist w n s j
      · obtain ⟨j, hj, e⟩ := c
        exact ih j hj e
      · exact ⟨k, hk, fun j hj e => c ⟨j, hj, e⟩⟩
  obtain ⟨r, e, m⟩ := mn
  have le : r ≤ t := by
    by_cases z : r ≤ t
    · exact z
    · exact absurd h (m t (by omega))
  exact ⟨r, le, e, m, (hist_rest e t le).symm⟩
theorem rest_same {w : Web} {n : Nat} {s : List Int} {r t : Nat} (hr : hist w n s (r + 1) = hist w n s r) (ht : hist w n s (t + 1) = hist w n s t) : hist w n s r = hist w n s t := by
  rw [← hist_rest hr (max r t) (Nat.le_max_left ..), ← hist_rest ht (max r t) (Nat.le_max_right ..)]
section
variable {Z n : Nat} {M : Nat → Nat → Int} {bs : List Int} {ss : List (Option Int)} {bk sk : Nat} {h : Hd} {T : List Tie}
theorem fitL_rep (ls : ss.length = n) (os : ∀ x ∈ ss, x = none ∨ x = some 0 ∨ x = some 1) {v : Int} (hv : v = 0 ∨ v = 1) : fitL ss (List.replicate n v) = if v = 0 then leastS ss else greatS ss := by
  apply List.ext_getElem?
  intro i
  have hl : (if v = 0 then leastS ss else greatS ss).length = n := by split <;> simp [leastS, greatS, ls]
  by_cases hi : i < n
  · have l3 : i < ss.length := by omega
    have mu := os _ (List.getElem_mem l3)
    have e1 : (fitL ss (List.replicate n v))[i]? = some ((ss[i]).getD v) := by simp [fitL, hi, List.getD, l3]
    rw [e1]
    rcases hv with e | e
    · subst e
      rw [if_pos rfl, leastS, List.getElem?_map, List.getElem?_eq_getElem l3]
      rcases mu with z | z | z <;> rw [z] <;> rfl
    · subst e
      rw [if_neg (by decide), greatS, List.getElem?_map, List.getElem?_eq_getElem l3]
      rcases mu with z | z | z <;> rw [z] <;> rfl
  · rw [List.getElem?_eq_none (by simp [fitL]; omega), List.getElem?_eq_none (by omega)]
theorem far_ok (m : Md Z n M bs ss bk sk h) (L : LP n M n 0 T) {v : Int} (hv : v = 0 ∨ v = 1) {r : Nat} {s : List Int} (hs : s = if v = 0 then leastS ss else greatS ss) (F : Fits (webOf n T bs ss) n s) (W : (webOf n T bs ss).Ok n) (S : StayOk (webOf n T bs ss))
    (hr : hist (webOf n T bs ss) n s (r + 1) = hist (webOf n T bs ss) n s r) (hm : ∀ k, k < r → hist (webOf n T bs ss) n s (k + 1) ≠ hist (webOf n T bs ss) n s k) : F_l_far [.tup [.ref (Z + n), .ref bk, .ref sk], .int v] h = .ok (.int r) h := by
  have n30 := m.n30
  obtain ⟨w, hw⟩ : ∃ w, w = webOf n T bs ss := ⟨_, rfl⟩
  rw [← hw] at F W S hr hm
  obtain ⟨td, htd⟩ : ∃ td : D, td = .tup [.ref (Z + n), .ref bk, .ref sk] := ⟨_, rfl⟩
  obtain ⟨h1, hh1⟩ : ∃ h1, h1 = h ++ [Cell.lst ((List.replicate n v).map .int)] := ⟨_, rfl⟩
  have m1 : Md Z n M bs ss bk sk h1 := by rw [hh1]; exact m.more _
  have ft := fitting_ok m1 (l := List.replicate n v) (by simp) (k := h.length) (by rw [hh1]; simp)
  rw [fitL_rep m.ls m.os hv, ← hs, ← htd] at ft
  have tn : ∀ k, F_l_turn [td, encI (hist w n s k)] h1 = .ok (encI (hist w n s (k + 1))) h1 := fun k => by
    have := turn_y m1 L (hist_fits W S F k).len (hist_fits W S F k).bits
    rw [← htd, ← hw] at this
    exact this
  have loop : ∀ j k, k + j = r → whileN (tE (fBin oNe (fCall F_l_turn (aCons (fVar 0) (aCons (fVar 2) aNil))) (fVar 2))) B0_l_far (j + 1) [some td, some (.int v), some (encI (hist w n s k)), some (.int k)] h1 = .nx [some td, some (.int v), some (encI (hist w n s r)), some (.int r)] h1 := by
    intro j
    induction j with
    | zero =>
      intro k hk
      have e : k = r := by omega
      subst e
      have l : (hist w n s (k + 1)).length = (hist w n s k).length := by rw [(hist_fits W S F (k + 1)).len, (hist_fits W S F k).len]
      have q := oNe_enc l h1
      have t : tE (fBin oNe (fCall F_l_turn (aCons (fVar 0) (aCons (fVar 2) aNil))) (fVar 2)) [some td, some (.int v), some (encI (hist w n s k)), some (.int k)] h1 = .ok false h1 := by
        rw [decide_eq_true hr] at q
        exact ev_b (ev_bin (ev_call (ev_2 rfl rfl) (tn k)) rfl q)
      rw [whileN, t]
    | succ j ih =>
      intro k hk
      have ne := hm k (by omega)
      have l : (hist w n s (k + 1)).length = (hist w n s k).length := by rw [(hist_fits W S F (k + 1)).len, (hist_fits W S F k).len]
      have q := oNe_enc l h1
      have t : tE (fBin oNe (fCall F_l_turn (aCons (fVar 0) (aCons (fVar 2) aNil))) (fVar 2)) [some td, some (.int v), some (encI (hist w n s k)), some (.int k)] h1 = .ok true h1 := by
        rw [decide_eq_false ne] at q
        exact ev_b (ev_bin (ev_call (ev_2 rfl rfl) (tn k)) rfl q)
      have b : B0_l_far [some td, some (.int v), some (encI (hist w n s k)), some (.int k)] h1 = .nx [some td, some (.int v), some (encI (hist w n s (k + 1))), some (.int ((k + 1 : Nat) : Int))] h1 := by
        exact (seq_nx' (ev_set (ev_call (ev_2 rfl rfl) (tn k)))).trans (ev_set (ev_bin rfl rfl rfl))
      rw [whileN, t]
      simp only [b]
      exact ih (k + 1) (by omega)
  have lp := sWhile_eq (loop r 0 (by omega)) (by simp)
  have b1 : h[bk]? = some (.lst (bs.map .int)) := m.ba
  have s1 : sSet (gN 2) (fCall F_l_fitting (aCons (fVar 0) (aCons (fNew (lRep (aCons (fVar 1) aNil) (fLen (lOf (fAt (fVar 0) (fC (.int 1))))))) aNil))) [some td, some (.int v), none, none] h = .nx [some td, some (.int v), some (encI s), none] h1 := by
    have ln : fLen (lOf (fAt (fVar 0) (fC (.int 1)))) [some td, some (.int v), none, none] h = .ok (.int n) h := by
      rw [htd]
      exact (ev_len (ev_lof (ev_at rfl rfl rfl rfl) (ev_seq b1))).trans (by rw [List.length_map, m.lb])
    have rp : fNew (lRep (aCons (fVar 1) aNil) (fLen (lOf (fAt (fVar 0) (fC (.int 1)))))) [some td, some (.int v), none, none] h = .ok (.ref h.length) h1 := by
      rw [hh1, List.map_replicate]
      exact rep_y (v := .int v) n30 ln
    exact ev_set (ev_call (ev_cons rfl (ev_cons rp rfl)) ft)
  have s2 : sSet (gN 3) (fC (.int 0)) [some td, some (.int v), some (encI s), none] h1 = .nx [some td, some (.int v), some (encI (hist w n s 0)), some (.int ((0 : Nat) : Int))] h1 := rfl
  have s4 : sRet (fVar 3) [some td, some (.int v), some (encI (hist w n s r)), some (.int r)] h1 = .rt (.int r) h1 := rfl
  have st : ([td, D.int v].map some ++ List.replicate (4 - [td, D.int v].length) none : Sd) = [some td, some (.int v), none, none] := rfl
  rw [← htd]
  unfold F_l_far mkFn runB
  rw [if_pos (by rfl), st, seq_nx' s1, seq_nx' s2, seq_nx' lp, s4, hh1]
  exact letGo_pure rfl
theorem calm_loop (m : Md Z n M bs ss bk sk h) (L : LP n M n 0 T) {w : Web} (hw : w = webOf n T bs ss) (W : w.Ok n) (S : StayOk w) {s : List Int} (F : Fits w n s) {td : D} (htd : td = .tup [.ref (Z + n), .ref bk, .ref sk]) (all : List D) : ∀ (j k : Nat) (x y : Option D),
    (∃ r, r < k + j ∧ k ≤ r ∧ hist w n s (r + 1) = hist w n s r ∧ forL none all (gN 2) B0_l_calm ((List.range' k j).map fun i : Nat => D.int i) [some td, some (encI (hist w n s k)), x, y] h = .rt (encI (hist w n s r)) h)
    ∨ ((∀ r, k ≤ r → r < k + j → hist w n s (r + 1) ≠ hist w n s r) ∧ ∃ σ, forL none all (gN 2) B0_l_calm ((List.range' k j).map fun i : Nat => D.int i) [some td, some (encI (hist w n s k)), x, y] h = .nx σ h) := by
  intro j
  induction j with
  | zero => intro k x y; exact .inr ⟨fun r h1 h2 => by omega, [some td, some (encI (hist w n s k)), x, y], by simp [forL]⟩
  | succ j ih =>
    intro k x y
    have Fk := hist_fits W S F k
    have tn : F_l_turn [td, encI (hist w n s k)] h = .ok (encI (hist w n s (k + 1))) h := by
      have := turn_y m L Fk.len Fk.bits
      rw [← htd, ← hw] at this
      exact this
    have l : (hist w n s (k + 1)).length = (hist w n s k).length := by rw [(hist_fits W S F (k + 1)).len, Fk.len]
    have q := oEq_enc l h
    have s1 : sSet (gN 3) (fCall F_l_turn (aCons (fVar 0) (aCons (fVar 1) aNil))) [some td, some (encI (hist w n s k)), some (.int k), y] h = .nx [some td, some (encI (hist w n s k)), some (.int k), some (encI (hist w n s (k + 1)))] h := ev_set (ev_call (ev_2 rfl rfl) tn)
    by_cases e : hist w n s (k + 1) = hist w n s k
    · refine .inl ⟨k, by omega, Nat.le_refl _, e, ?_⟩
      have s2 : sIf (tE (fBin oEq (fVar 3) (fVar 1))) (sRet (fVar 1)) sNil [some td, some (encI (hist w n s k)), some (.int k), some (encI (hist w n s (k + 1)))] h = .rt (encI (hist w n s k)) h := by
        rw [decide_eq_true e] at q
        rw [if_t (h' := h) (ev_b (ev_bin rfl rfl q))]; rfl
      have b : B0_l_calm [some td, some (encI (hist w n s k)), some (.int k), y] h = .rt (encI (hist w n s k)) h := by
        unfold B0_l_calm
        rw [seq_nx' s1, seq_rt' s2]
      rw [List.range'_succ, List.map_cons, forL]
      simp only [held_none, if_true, gN, List.set_cons_succ, List.set_cons_zero, b]
    · have s2 : sIf (tE (fBin oEq (fVar 3) (fVar 1))) (sRet (fVar 1)) sNil [some td, some (encI (hist w n s k)), some (.int k), some (encI (hist w n s (k + 1)))] h = .nx [some td, some (encI (hist w n s k)), some (.int k), some (encI (hist w n s (k + 1)))] h := by
        rw [decide_eq_false e] at q
        rw [if_f (h' := h) (ev_b (ev_bin rfl rfl q))]; rfl
      have b : B0_l_calm [some td, some (encI (hist w n s k)), some (.int k), y] h = .nx [some td, some (encI (hist w n s (k + 1))), some (.int k), some (encI (hist w n s (k + 1)))] h := by
        unfold B0_l_calm
        rw [seq_nx' s1, seq_nx' s2]
        rfl
      rw [List.range'_succ, List.map_cons, forL]
      simp only [held_none, if_true, gN, List.set_cons_succ, List.set_cons_zero, b]
      rcases ih (k + 1) (some (.int k)) (some (encI (hist w n s (k + 1)))) with ⟨r, r1, r2, r3, r4⟩ | ⟨r1, σ, r2⟩
      · exact .inl ⟨r, by omega, by omega, r3, r4⟩
      · refine .inr ⟨fun r h1 h2 => ?_, σ, r2⟩
        by_cases z : r = k
        · subst z; exact e
        · exact r1 r (by omega) (by omega)
theorem calm_ok (m : Md Z n M bs ss bk sk h) (L : LP n M n 0 T) {w : Web} (hw : w = webOf n T bs ss) (W : w.Ok n) (S : StayOk w) {s : List Int} (F : Fits w n s) {td : D} (htd : td = .tup [.ref (Z + n), .ref bk, .ref sk]) :
    (∃ r, r < 40 ∧ hist w n s (r + 1) = hist w n s r ∧ F_l_calm [td, encI s] h = .ok (encI (hist w n s r)) h) ∨ ((∀ r, r < 40 → hist w n s (r + 1) ≠ hist w n s r) ∧ F_l_calm [td, encI s] h = .ok .non h) := by
  have lp := calm_loop m L hw W S F htd ((List.range 40).map fun k : Nat => D.int k) 40 0 none none
  rw [← List.range_eq_range'] at lp
  have st : ([td, encI s].map some ++ List.replicate (4 - [td, encI s].length) none : Sd) = [some td, some (encI s), none, none] := rfl
  have hist0 : hist w n s 0 = s := rfl
  rw [hist0] at lp
  have sf : ∀ o, forL none ((List.range 40).map fun k : Nat => D.int k) (gN 2) B0_l_calm ((List.range 40).map fun k : Nat => D.int k) [some td, some (encI s), none, none] h = o → sFor (iRange (fC (.int 40))) (gN 2) B0_l_calm [some td, some (encI s), none, none] h = o := fun o e => by
    have z1 : ((40 : Nat) : Int) ≤ 1000000 := by omega
    have z2 : -1000000 ≤ ((40 : Nat) : Int) := by omega
    have e40 : iRange (fC (.int 40)) [some td, some (encI s), none, none] h = .ok ((List.range 40).map fun k : Nat => D.int k, none) h := by
      show (if -1000000 ≤ ((40 : Nat) : Int) ∧ ((40 : Nat) : Int) ≤ 1000000 then (Res.ok ((List.range ((40 : Nat) : Int).toNat).map fun k : Nat => D.int k, none) h : Res (List D × Option Nat)) else .bad) = _
      rw [if_pos ⟨z2, z1⟩, Int.toNat_natCast]
    simp only [sFor, e40]
    exact e
  rcases lp with ⟨r, r1, r2, r3, r4⟩ | ⟨r1, σ, r2⟩
  · refine .inl ⟨r, by omega, r3, ?_⟩
    unfold F_l_calm mkFn runB
    rw [if_pos (by rfl), st, seq_rt' (sf _ r4)]
    exact letGo_self
  · refine .inr ⟨fun r hr => r1 r (by omega) (by omega), ?_⟩
    unfold F_l_calm mkFn runB
    rw [if_pos (by rfl), st, seq_nx' (sf _ r2)]
    exact letGo_self
theorem calm_at (m : Md Z n M bs ss bk sk h) (L : LP n M n 0 T) {w : Web} (hw : w = webOf n T bs ss) (W : w.Ok n) (S : StayOk w) {s : List Int} (F : Fits w n s) {td : D} (htd : td = .tup [.ref (Z + n), .ref bk, .ref sk]) {t : Nat} (ht : t < 40) (e : hist w n s (t + 1) = hist w n s t) : F_l_calm [td, encI s] h = .ok (encI (hist w n s t)) h := by
  rcases calm_ok m L hw W S F htd with ⟨r, r1, r2, r3⟩ | ⟨r1, _⟩
  · rw [r3, rest_same r2 e]
  · exact absurd e (r1 t ht)
end
end Fm
set_option linter.all false
namespace Fm
section
variable {Z n : Nat} {M : Nat → Nat → Int} {bs : List Int} {ss : List (Option Int)} {bk sk : Nat} {h : Hd} {T : List Tie}
theorem pair_comp {g : Int → Int → Int} {E : EF} {a b : List Int} (la : a.length = n) (lb : b.length = n) (hE : ∀ (i : Nat), i < n → E [some (.int i), some (encI a), some (encI b)] h = .ok (.int (g (a.getD i 0) (b.getD i 0))) h) (c : Option D) :
    compL none ((List.range n).map fun k : Nat => D.int k) (gN 0) [] E ((List.range n).map fun k : Nat => D.int k) [c, some (encI a), some (encI b)] h = .ok (((a.zip b).map fun p => g p.1 p.2).map .int) h := by
  have := compL_pure (g := none) (all := (List.range n).map fun k : Nat => D.int k) (tg := gN 0) (cs := []) (e := E) (h := h) (I := fun σ => ∃ c, σ = [c, some (encI a), some (encI b)]) (fun _ => true) (fun d => match d with | .int i => .int (g (a.getD i.toNat 0) (b.getD i.toNat 0)) | _ => .non) trivial
    (xs := (List.range n).map fun k : Nat => D.int k) (σ := [c, some (encI a), some (encI b)]) (by
      rintro x hx σ ⟨d, rfl⟩
      obtain ⟨i, hi, rfl⟩ := List.mem_map.mp hx
      have hi := List.mem_range.mp hi
      exact ⟨_, rfl, ⟨_, rfl⟩, rfl, fun _ => hE i hi⟩) ⟨_, rfl⟩
  rw [this, List.filter_eq_self.mpr (by simp), List.map_map]
  refine congrArg (fun l => Res.ok l h) ?_
  apply List.ext_getElem?
  intro i
  by_cases hi : i < n
  · rw [List.getElem?_map (f := D.int), zip_at la lb hi]
    simp [hi]
  · rw [List.getElem?_eq_none (by simp; omega), List.getElem?_eq_none (by simp; omega)]
theorem max_comp {a b : List Int} (la : a.length = n) (lb : b.length = n) (hn : n ≤ 1000) (x0 x1 : D) (x4 x5 : Option D) : fTupL (lComp 1 [2, 3] (iRange (fLen (lOf (fVar 2)))) (gN 0) [] (fMax (fAt (fVar 1) (fVar 0)) (fAt (fVar 2) (fVar 0)))) [some x0, some x1, some (encI a), some (encI b), x4, x5] h = .ok (encI (maxS a b)) h := by
  have c := pair_comp (h := h) (g := fun x y => if y > x then y else x) (E := fMax (fAt (fVar 1) (fVar 0)) (fAt (fVar 2) (fVar 0))) la lb (fun i hi => by
    exact ev_max (ev_at rfl rfl rfl (getD_at (la ▸ hi))) (ev_at rfl rfl rfl (getD_at (lb ▸ hi)))) none
  have ln : fLen (lOf (fVar 2)) [some x0, some x1, some (encI a), some (encI b), x4, x5] h = .ok (.int n) h := (ev_len (ev_lof rfl rfl)).trans (by rw [List.length_map, la])
  exact ev_tupL (ev_comp (ev_range ln hn) c)
theorem min_comp {a b : List Int} (la : a.length = n) (lb : b.length = n) (hn : n ≤ 1000) (x0 x1 : D) (x4 x5 : Option D) : fTupL (lComp 1 [2, 3] (iRange (fLen (lOf (fVar 2)))) (gN 0) [] (fMin (fAt (fVar 1) (fVar 0)) (fAt (fVar 2) (fVar 0)))) [some x0, some x1, some (encI a), some (encI b), x4, x5] h = .ok (encI (minS a b)) h := by
  have c := pair_comp (h := h) (g := fun x y => if y < x then y else x) (E := fMin (fAt (fVar 1) (fVar 0)) (fAt (fVar 2) (fVar 0))) la lb (fun i hi => by
    exact ev_min (ev_at rfl rfl rfl (getD_at (la ▸ hi))) (ev_at rfl rfl rfl (getD_at (lb ▸ hi)))) none
  have ln : fLen (lOf (fVar 2)) [some x0, some x1, some (encI a), some (encI b), x4, x5] h = .ok (.int n) h := (ev_len (ev_lof rfl rfl)).trans (by rw [List.length_map, la])
  exact ev_tupL (ev_comp (ev_range ln hn) c)
noncomputable def RestD (w : Web) (n : Nat) (d : D) : Prop := d = .non ∨ ∃ a, d = encI a ∧ Fits w n a ∧ turnS w n a = a
theorem bounds_ok (m : Md Z n M bs ss bk sk h) (L : LP n M n 0 T) {w : Web} (hw : w = webOf n T bs ss) (W : w.Ok n) (S : StayOk w) (MM : More w w n) {td : D} (htd : td = .tup [.ref (Z + n), .ref bk, .ref sk]) {d1 d2 : D} (r1 : RestD w n d1) (r2 : RestD w n d2) : F_l_bounds_right [td, w.enc, d1, d2] h = .ok (.bl true) h := by
  have n30 := m.n30
  rcases r1 with rfl | ⟨a, rfl, Fa, ra⟩
  · have s1 : sIf (tOr (tE (fBin oIsN (fVar 2) (fC .non))) (tE (fBin oIsN (fVar 3) (fC .non)))) (sRet (fC (.bl true))) sNil [some td, some w.enc, some .non, some d2, none, none] h = .rt (.bl true) h := (ev_t (ev_ort (ev_b (ev_bin rfl rfl rfl)))).trans (ev_ret rfl)
    have st : ([td, w.enc, D.non, d2].map some ++ List.replicate (6 - [td, w.enc, D.non, d2].length) none : Sd) = [some td, some w.enc, some .non, some d2, none, none] := rfl
    unfold F_l_bounds_right mkFn runB
    rw [if_pos (by rfl), st, seq_rt' s1]
    exact letGo_self
  · rcases r2 with rfl | ⟨b, rfl, Fb, rb⟩
    · have s1 : sIf (tOr (tE (fBin oIsN (fVar 2) (fC .non))) (tE (fBin oIsN (fVar 3) (fC .non)))) (sRet (fC (.bl true))) sNil [some td, some w.enc, some (encI a), some .non, none, none] h = .rt (.bl true) h := (ev_t (ev_or (ev_b (ev_bin rfl rfl rfl)) (ev_b (ev_bin rfl rfl rfl)))).trans (ev_ret rfl)
      have st : ([td, w.enc, encI a, D.non].map some ++ List.replicate (6 - [td, w.enc, encI a, D.non].length) none : Sd) = [some td, some w.enc, some (encI a), some .non, none, none] := rfl
      unfold F_l_bounds_right mkFn runB
      rw [if_pos (by rfl), st, seq_rt' s1]
      exact letGo_self
    · obtain ⟨t1, l1, e1⟩ := max_stops W S MM Fa Fb ra rb
      obtain ⟨t2, l2, e2⟩ := min_stops W S MM Fa Fb ra rb
      have Fx := max_fits W Fa Fb
      have Fn := min_fits W Fa Fb
      have c1 := calm_at m L hw W S Fx htd (by omega) e1
      have c2 := calm_at m L hw W S Fn htd (by omega) e2
      have j1 := joined_ok W S Fa Fb ra rb (by omega) e1 h
      have j2 := met_ok W S Fa Fb ra rb (by omega) e2 h
      have x1 := max_comp (h := h) Fa.len Fb.len (by omega) td w.enc none none
      obtain ⟨U, hU⟩ : ∃ U, U = hist w n (maxS a b) t1 := ⟨_, rfl⟩
      obtain ⟨V, hV⟩ : ∃ V, V = hist w n (minS a b) t2 := ⟨_, rfl⟩
      rw [← hU] at c1 j1
      rw [← hV] at c2 j2
      have x2 := min_comp (h := h) Fa.len Fb.len (by omega) td w.enc (some (encI U)) none
      have s1 : sIf (tOr (tE (fBin oIsN (fVar 2) (fC .non))) (tE (fBin oIsN (fVar 3) (fC .non)))) (sRet (fC (.bl true))) sNil [some td, some w.enc, some (encI a), some (encI b), none, none] h = .nx [some td, some w.enc, some (encI a), some (encI b), none, none] h := ev_f (ev_or (ev_b (ev_bin rfl rfl rfl)) (ev_b (ev_bin rfl rfl rfl)))
      have s2 : sSet (gN 4) (fCall F_l_calm (aCons (fVar 0) (aCons (fTupL (lComp 1 [2, 3] (iRange (fLen (lOf (fVar 2)))) (gN 0) [] (fMax (fAt (fVar 1) (fVar 0)) (fAt (fVar 2) (fVar 0))))) aNil))) [some td, some w.enc, some (encI a), some (encI b), none, none] h = .nx [some td, some w.enc, some (encI a), some (encI b), some (encI U), none] h := by
        exact ev_set (ev_call (ev_cons rfl (ev_cons x1 rfl)) c1)
      have s3 : sSet (gN 5) (fCall F_l_calm (aCons (fVar 0) (aCons (fTupL (lComp 1 [2, 3] (iRange (fLen (lOf (fVar 2)))) (gN 0) [] (fMin (fAt (fVar 1) (fVar 0)) (fAt (fVar 2) (fVar 0))))) aNil))) [some td, some w.enc, some (encI a), some (encI b), some (encI U), none] h = .nx [some td, some w.enc, some (encI a), some (encI b), some (encI U), some (encI V)] h := by
        exact ev_set (ev_call (ev_cons rfl (ev_cons x2 rfl)) c2)
      have qU : oEq (encI U) (encI U) h = .ok (.bl true) h := by rw [oEq_enc rfl]; simp
      have qV : oEq (encI V) (encI V) h = .ok (.bl true) h := by rw [oEq_enc rfl]; simp
      have s4 : sRet (fT (tAnd (tE (fBin oEq (fCall F_joined (aCons (fVar 1) (aCons (fVar 2) (aCons (fVar 3) aNil)))) (fVar 4))) (tE (fBin oEq (fCall F_met (aCons (fVar 1) (aCons (fVar 2) (aCons (fVar 3) aNil)))) (fVar 5))))) [some td, some w.enc, some (encI a), some (encI b), some (encI U), some (encI V)] h = .rt (.bl true) h := by
        exact ev_ret (ev_fT (ev_and (ev_b (ev_bin (ev_call (ev_cons rfl (ev_2 rfl rfl)) j1) rfl qU)) (ev_b (ev_bin (ev_call (ev_cons rfl (ev_2 rfl rfl)) j2) rfl qV))))
      have st : ([td, w.enc, encI a, encI b].map some ++ List.replicate (6 - [td, w.enc, encI a, encI b].length) none : Sd) = [some td, some w.enc, some (encI a), some (encI b), none, none] := rfl
      unfold F_l_bounds_right mkFn runB
      rw [if_pos (by rfl), st, seq_nx' s1, seq_nx' s2, seq_nx' s3, s4]
      exact letGo_self
theorem calm_rest (m : Md Z n M bs ss bk sk h) (L : LP n M n 0 T) {w : Web} (hw : w = webOf n T bs ss) (W : w.Ok n) (S : StayOk w) {s : List Int} (F : Fits w n s) {td : D} (htd : td = .tup [.ref (Z + n), .ref bk, .ref sk]) : ∃ d, F_l_calm [td, encI s] h = .ok d h ∧ RestD w n d := by
  rcases calm_ok m L hw W S F htd with ⟨r, r1, r2, r3⟩ | ⟨_, r2⟩
  · exact ⟨_, r3, .inr ⟨_, rfl, hist_fits W S F r, r2⟩⟩
  · exact ⟨_, r2, .inl rfl⟩
theorem bit_comp {f : Int → Int} {E : EF} {l : List Int} {k : Nat} (hk : h[k]? = some (.lst (l.map .int))) (hE : ∀ x : Int, E [some (.int x)] h = .ok (.int (f x)) h) (c : Option D) : compL (some k) (l.map .int) (gN 0) [] E (l.map .int) [c] h = .ok ((l.map f).map .int) h := by
  have := compL_pure (g := some k) (all := l.map .int) (tg := gN 0) (cs := []) (e := E) (h := h) (I := fun σ => ∃ c, σ = [c]) (fun _ => true) (fun d => match d with | .int i => .int (f i) | _ => .non) hk
    (xs := l.map .int) (σ := [c]) (by
      rintro x hx σ ⟨d, rfl⟩
      obtain ⟨u, hu, rfl⟩ := List.mem_map.mp hx
      exact ⟨_, rfl, ⟨_, rfl⟩, rfl, fun _ => hE u⟩) ⟨_, rfl⟩
  rw [this, List.filter_eq_self.mpr (by simp), List.map_map, List.map_map]
  rfl
theorem drawn_ok (m : Md Z n M bs ss bk sk h) {f : Int → Int} {E : EF} {l : List Int} (ll : l.length = n) (lf : ∀ x, f x = 0 ∨ f x = 1) {k : Nat} (hk : h[k]? = some (.lst (l.map .int))) (hE : ∀ (x : Int) (h : Hd), E [some (.int x)] h = .ok (.int (f x)) h) {td : D} (htd : td = .tup [.ref (Z + n), .ref bk, .ref sk]) {σ : Sd} (e1 : σ[1]? = some (some td)) (e5 : σ[5]? = some (some (.ref k))) :
    fCall F_l_fitting (aCons (fVar 1) (aCons (fNew (lComp 1 [] (iSeq (fVar 5)) (gN 0) [] E)) aNil)) σ h = .ok (encI (fitL ss (l.map f))) (h ++ [.lst ((l.map f).map .int)]) ∧ FitS n ss (fitL ss (l.map f)) := by
  have n30 := m.n30
  have c := bit_comp hk (fun x => hE x h) none
  have lz : l.length ≤ 1000000 := by omega
  have ft := fitting_ok (m.more [.lst ((l.map f).map .int)]) (l := l.map f) (by simp [ll]) (k := h.length) (by simp)
  rw [← htd] at ft
  refine ⟨?_, fitL_fit m.ls m.os (by simp [ll]) fun i => ?_⟩
  · have nw : fNew (lComp 1 [] (iSeq (fVar 5)) (gN 0) [] E) σ h = .ok (.ref h.length) (h ++ [.lst ((l.map f).map .int)]) := by
      have lf' : ((l.map f).map D.int).length ≤ 1000000 := by simp; omega
      have v5 : fVar 5 σ h = .ok (.ref k) h := by simp only [fVar, slot, e5]
      exact ev_new (ev_comp (ev_iseq v5 hk) c) lf'
    have v1 : fVar 1 σ h = .ok td h := by simp only [fVar, slot, e1]
    exact ev_call (ev_cons v1 (ev_cons nw rfl)) ft
  · by_cases hi : i < l.length
    · simp [List.getD, hi, lf]
    · left; simp [List.getD, List.getElem?_eq_none (show l.length ≤ i by omega)]
end
end Fm
set_option linter.all false
namespace Fm
theorem sForR {E : EF} {tg : GF} {b : SF} {σ : Sd} {h h' : Hd} {x : Int} {k : Nat} (e : E σ h = .ok (.int x) h') (c1 : -1000000 ≤ x) (c2 : x ≤ 1000000) (tn : x.toNat = k) : sFor (iRange E) tg b σ h = forL none ((List.range k).map fun k : Nat => D.int k) tg b ((List.range k).map fun k : Nat => D.int k) σ h' := by
  simp only [sFor, iRange, e, bind_ok, c1, c2, and_self, if_true, tn]
theorem webOf_more {n : Nat} {T : List Tie} (O : TOk n n 0 T) {bs : List Int} {ss : List (Option Int)} (os : ∀ x ∈ ss, x = none ∨ x = some 0 ∨ x = some 1) : More (webOf n T bs ss) (webOf n T bs ss) n := by
  refine more_mk os os (fun p hp a b _ B l => pulled_mono B l fun q hq => ?_) (fun _ _ => Int.le_refl _) fun p _ => ?_
  · have e : (webOf n T bs ss).ties.getD p [] = sortN (nbs T p) := by simp [webOf, List.getD, hp]
    rw [e] at hq
    have hq := mem_sortN.mp hq
    unfold nbs at hq
    obtain ⟨t, ht', z⟩ := List.mem_filterMap.mp hq
    have := O.wt t ht'
    cases e : far p t with
    | none => rw [e] at z; cases z
    | some j => rw [e] at z; simp at z; subst z; simp only; omega
  · show (ss.getD p none = none ∧ ss.getD p none = none) ∨ ss.getD p none = some 0 ∨ ss.getD p none = some 1
    by_cases h : p < ss.length
    · have := os _ (List.getElem_mem h)
      rw [show ss.getD p none = ss[p] by simp [List.getD, h]]
      rcases this with e | e | e
      · exact .inl ⟨e, e⟩
      · exact .inr (.inl e)
      · exact .inr (.inr e)
    · left; simp [List.getD, List.getElem?_eq_none (show ss.length ≤ p by omega)]
theorem mx_r {r0 r1 n : Nat} (h0 : r0 ≤ n) (h1 : r1 ≤ n) : ∃ R : Nat, (if (r1 : Int) > r0 then (r1 : Int) else r0) = R ∧ r0 ≤ R ∧ r1 ≤ R ∧ R ≤ n := by
  by_cases c : r0 < r1
  · exact ⟨r1, if_pos (Int.ofNat_lt.mpr c), Nat.le_of_lt c, Nat.le_refl _, h1⟩
  · exact ⟨r0, if_neg fun z => c (Int.ofNat_lt.mp z), Nat.le_refl _, Nat.not_lt.mp c, h0⟩
noncomputable abbrev XB (S0 td : D) (n : Nat) (w : D) (way : Int) (K : Nat) (a6 a7 a8 a9 a10 : Option D) : Sd := [some S0, some td, some (.int n), some w, some (.int way), some (.ref K), a6, a7, a8, a9, a10, none, none, none, none]
theorem law_ok (ns : List Int) (hns : ns.length ≤ 63) : ∃ h, F_law [.lit (ns.map .int)] [] = .ok (.bl true) h := by
  obtain ⟨n, M, bs, ss, bk, sk, h1, P⟩ := model_ok ns
  have n30 := P.n30
  have m : Md 0 n M bs ss bk sk h1 := ⟨P.n1, P.n30, P.mt, P.mo, P.ba, P.st, P.lb, P.ls, P.os⟩
  obtain ⟨td, htd⟩ : ∃ td : D, td = .tup [.ref (0 + n), .ref bk, .ref sk] := ⟨_, rfl⟩
  obtain ⟨S0, hS0⟩ : ∃ S0 : D, S0 = .lit (ns.map .int) := ⟨_, rfl⟩
  obtain ⟨T, ql, LL⟩ := lines_ok m
  have mq := made_ok m ql LL
  obtain ⟨w, hw⟩ : ∃ w, w = webOf n T bs ss := ⟨_, rfl⟩
  rw [← htd, ← hw] at mq
  have W : w.Ok n := by rw [hw]; exact webOf_ok n30 LL.ok P.lb P.ls
  have S : StayOk w := by rw [hw]; exact P.os
  have MM : More w w n := by rw [hw]; exact webOf_more LL.ok P.os
  have wst : w.stays = ss := by rw [hw]; rfl
  have e0 : L0_law [some S0, none, none, none, none, none, none, none, none, none, none, none, none, none, none] [] = .nx [some S0, some td, none, none, none, none, none, none, none, none, none, none, none, none, none] h1 := by
    have r := P.run
    rw [← htd, ← hS0] at r
    exact ev_set (ev_call (ev_2 rfl rfl) r)
  have e1 : L1_law [some S0, some td, none, none, none, none, none, none, none, none, none, none, none, none, none] h1 = .nx [some S0, some td, some (.int n), none, none, none, none, none, none, none, none, none, none, none, none] h1 := by
    rw [htd]
    exact (ev_set (ev_len (ev_lof (ev_at rfl rfl rfl rfl) (ev_seq m.ba)))).trans (by rw [List.length_map, m.lb]; rfl)
  have e2 : L2_law [some S0, some td, some (.int n), none, none, none, none, none, none, none, none, none, none, none, none] h1 = .nx [some S0, some td, some (.int n), some w.enc, none, none, none, none, none, none, none, none, none, none, none] h1 := ev_set (ev_call (ev_cons rfl rfl) mq)
  obtain ⟨way, hway⟩ := ycell ns 0 (by decide)
  obtain ⟨c4, hc4⟩ := ycell ns 4 (by decide)
  have hway : ∀ h, F_l_cell [S0, .int 0] h = .ok (.int way) h := by rw [hS0]; exact hway
  have hc4 : ∀ h, F_l_cell [S0, .int 4] h = .ok (.int c4) h := by rw [hS0]; exact hc4
  have e3 : L3_law [some S0, some td, some (.int n), some w.enc, none, none, none, none, none, none, none, none, none, none, none] h1 = .nx [some S0, some td, some (.int n), some w.enc, some (.int way), none, none, none, none, none, none, none, none, none, none] h1 := ev_set (ev_call (ev_2 rfl rfl) (hway _))
  obtain ⟨l, q4, ll, lb⟩ := yrow c4 way 3 n (le30 n30) (by decide) (by decide) h1
  obtain ⟨K, hK⟩ : ∃ K, K = h1.length := ⟨_, rfl⟩
  obtain ⟨h2, hh2⟩ : ∃ h2, h2 = h1 ++ [Cell.lst (l.map .int)] := ⟨_, rfl⟩
  rw [← hh2, ← hK] at q4
  have e4 : L4_law [some S0, some td, some (.int n), some w.enc, some (.int way), none, none, none, none, none, none, none, none, none, none] h1 = .nx (XB S0 td n w.enc way K none none none none none) h2 := ev_set (ev_call (ev_cons (ev_call (ev_2 rfl rfl) (hc4 _)) (ev_cons rfl (ev_2 rfl rfl))) q4)
  have m2 : Md 0 n M bs ss bk sk h2 := by rw [hh2]; exact m.more _
  have g2 : h2[K]? = some (.lst (l.map .int)) := by rw [hh2]; exact get_end hK _
  have eqE : ∀ (v x : Int) (h : Hd), fInt (fBin oEq (fVar 0) (fC (.int v))) [some (.int x)] h = .ok (.int (if x = v then 1 else 0)) h := fun v x h => by
    by_cases e : x = v
    · rw [if_pos e]; exact ev_int (b := true) (ev_bin rfl rfl (ev_eqt e))
    · rw [if_neg e]; exact ev_int (b := false) (ev_bin rfl rfl (ev_eqf e))
  have gtE : ∀ (x : Int) (h : Hd), fInt (fBin oGt (fVar 0) (fC (.int 0))) [some (.int x)] h = .ok (.int (if 0 < x then 1 else 0)) h := fun x h => by
    by_cases e : 0 < x
    · rw [if_pos e]; exact ev_int (b := true) (ev_bin rfl rfl (ev_gtt e))
    · rw [if_neg e]; exact ev_int (b := false) (ev_bin rfl rfl (ev_gtf e))
  obtain ⟨d5, F5⟩ := drawn_ok m2 ll (f := fun x => if x = 2 then 1 else 0) (fun x => by split <;> simp) g2 (eqE 2) htd (σ := (XB S0 td n w.enc way K none none none none none)) rfl rfl
  obtain ⟨one, hone⟩ : ∃ one, one = fitL ss (l.map fun x => if x = 2 then 1 else 0) := ⟨_, rfl⟩
  obtain ⟨h3, hh3⟩ : ∃ h3, h3 = h2 ++ [Cell.lst ((l.map fun x => if x = 2 then (1 : Int) else 0).map .int)] := ⟨_, rfl⟩
  rw [← hone, ← hh3] at d5
  rw [← hone] at F5
  have e5 : L5_law (XB S0 td n w.enc way K none none none none none) h2 = .nx (XB S0 td n w.enc way K (some (encI one)) none none none none) h3 := ev_set d5
  have m3 : Md 0 n M bs ss bk sk h3 := by rw [hh3]; exact m2.more _
  have g3 : h3[K]? = some (.lst (l.map .int)) := by rw [hh3]; exact app_at _ g2
  obtain ⟨d6, F6⟩ := drawn_ok m3 ll (f := fun x => if 0 < x then 1 else 0) (fun x => by split <;> simp) g3 gtE htd (σ := (XB S0 td n w.enc way K (some (encI one)) none none none none)) rfl rfl
  obtain ⟨oth, hoth⟩ : ∃ oth, oth = fitL ss (l.map fun x => if 0 < x then 1 else 0) := ⟨_, rfl⟩
  obtain ⟨h4, hh4⟩ : ∃ h4, h4 = h3 ++ [Cell.lst ((l.map fun x => if 0 < x then (1 : Int) else 0).map .int)] := ⟨_, rfl⟩
  rw [← hoth, ← hh4] at d6
  rw [← hoth] at F6
  have e6 : L6_law (XB S0 td n w.enc way K (some (encI one)) none none none none) h3 = .nx (XB S0 td n w.enc way K (some (encI one)) (some (encI oth)) none none none) h4 := ev_set d6
  have m4 : Md 0 n M bs ss bk sk h4 := by rw [hh4]; exact m3.more _
  have g4 : h4[K]? = some (.lst (l.map .int)) := by rw [hh4]; exact app_at _ g3
  have Fo : Fits w n one := by rw [hw]; exact F5.fits T bs
  have Ft : Fits w n oth := by rw [hw]; exact F6.fits T bs
  have le12 : LeS one oth := by
    rw [hone, hoth]
    refine fitL_le (n := n) (by simp [ll]) (by simp [ll]) fun i => ?_
    by_cases hi : i < l.length
    · have b := lb _ (List.getElem_mem hi)
      simp only [List.getD, List.getElem?_map, List.getElem?_eq_getElem hi, Option.map_some, Option.getD_some]
      split <;> split <;> omega
    · simp [List.getD, List.getElem?_eq_none (show l.length ≤ i by omega)]
  obtain ⟨t0, lt0, s0⟩ := least_stops W S MM
  obtain ⟨t1, lt1, s1⟩ := great_stops W S MM
  obtain ⟨lo, hlo⟩ : ∃ lo, lo = hist w n (leastS w.stays) t0 := ⟨_, rfl⟩
  obtain ⟨hi, hhi⟩ : ∃ hi, hi = hist w n (greatS w.stays) t1 := ⟨_, rfl⟩
  have lq := least_rest_ok W S (by omega) s0 h4
  have gq := great_rest_ok W S (by omega) s1 h4
  rw [← hlo] at lq
  rw [← hhi] at gq
  have Fl0 := least_fit W S
  have Fg0 := great_fit W S
  have Flo : Fits w n lo := by rw [hlo]; exact hist_fits W S Fl0 t0
  have Fhi : Fits w n hi := by rw [hhi]; exact hist_fits W S Fg0 t1
  have rlo : turnS w n lo = lo := by rw [hlo]; exact s0
  have rhi : turnS w n hi = hi := by rw [hhi]; exact s1
  obtain ⟨BD, hBD⟩ : ∃ BD : D, BD = .tup [encI lo, encI hi] := ⟨_, rfl⟩
  have e7 : L7_law (XB S0 td n w.enc way K (some (encI one)) (some (encI oth)) none none none) h4 = .nx (XB S0 td n w.enc way K (some (encI one)) (some (encI oth)) (some BD) none none) h4 := by
    rw [hBD]; exact ev_set (ev_tup (ev_cons (ev_call (ev_cons rfl rfl) lq) (ev_cons (ev_call (ev_cons rfl rfl) gq) rfl)))
  obtain ⟨r0, lr0, rs0, rm0, re0⟩ := least_run s0
  obtain ⟨r1, lr1, rs1, rm1, re1⟩ := least_run s1
  have f0 : F_l_far [td, .int 0] h4 = .ok (.int r0) h4 := by
    rw [htd]
    refine far_ok m4 LL (v := 0) (.inl rfl) (s := leastS ss) (by rw [if_pos rfl]) ?_ ?_ ?_ ?_ ?_ <;> rw [← hw]
    · rw [← wst]; exact Fl0
    · exact W
    · exact S
    · rw [← wst]; exact rs0
    · rw [← wst]; exact rm0
  have f1 : F_l_far [td, .int 1] h4 = .ok (.int r1) h4 := by
    rw [htd]
    refine far_ok m4 LL (v := 1) (.inr rfl) (s := greatS ss) (by rw [if_neg (by decide)]) ?_ ?_ ?_ ?_ ?_ <;> rw [← hw]
    · rw [← wst]; exact Fg0
    · exact W
    · exact S
    · rw [← wst]; exact rs1
    · rw [← wst]; exact rm1
  obtain ⟨R, hR, R0⟩ := mx_r (Nat.le_trans lr0 lt0) (Nat.le_trans lr1 lt1)
  have R30 : R ≤ 30 := Nat.le_trans R0.2.2 n30
  have e8 : L8_law (XB S0 td n w.enc way K (some (encI one)) (some (encI oth)) (some BD) none none) h4 = .nx (XB S0 td n w.enc way K (some (encI one)) (some (encI oth)) (some BD) (some (.int R)) none) h4 := by
    rw [← hR]
    exact ev_set (ev_max (ev_call (ev_2 rfl rfl) f0) (ev_call (ev_2 rfl rfl) f1))
  have hq1 := history_ok W S Fo (m := R + 3) (by omega) h4
  obtain ⟨h5, hh5⟩ : ∃ h5, h5 = h4 ++ [Cell.lst ((histL w n one (R + 3 + 1)).map encI)] := ⟨_, rfl⟩
  rw [← hh5] at hq1
  have hq2 := history_ok W S Ft (m := R + 3) (by omega) h5
  obtain ⟨h6, hh6⟩ : ∃ h6, h6 = h5 ++ [Cell.lst ((histL w n oth (R + 3 + 1)).map encI)] := ⟨_, rfl⟩
  rw [← hh6] at hq2
  obtain ⟨h7, hh7⟩ : ∃ h7, h7 = h6 ++ [Cell.lst [.ref h4.length, .ref h5.length]] := ⟨_, rfl⟩
  obtain ⟨KT, hKT⟩ : ∃ KT, KT = h6.length := ⟨_, rfl⟩
  have hq1 : F_history [w.enc, encI one, .int ((R : Int) + 3)] h4 = .ok (.ref h4.length) h5 := hq1
  have hq2 : F_history [w.enc, encI oth, .int ((R : Int) + 3)] h5 = .ok (.ref h5.length) h6 := hq2
  have e9 : L9_law (XB S0 td n w.enc way K (some (encI one)) (some (encI oth)) (some BD) (some (.int R)) none) h4 = .nx (XB S0 td n w.enc way K (some (encI one)) (some (encI oth)) (some BD) (some (.int R)) (some (.ref KT))) h7 := by
    rw [hh7, hKT]; exact ev_set (ev_new (ev_cons (ev_call (ev_cons rfl (ev_2 rfl rfl)) hq1) (ev_cons (ev_call (ev_cons rfl (ev_2 rfl rfl)) hq2) rfl)))
  have gt : h7[KT]? = some (.lst [.ref h4.length, .ref h5.length]) := by rw [hh7]; exact get_end hKT _
  have old5 : ∀ {k : Nat} {x : Cell}, h5[k]? = some x → h7[k]? = some x := fun e => by rw [hh7, hh6]; exact app_at _ (app_at _ e)
  have ga : h7[h4.length]? = some (.lst ((histL w n one (R + 3 + 1)).map encI)) := old5 (by rw [hh5]; exact List.getElem?_concat_length)
  have gb : h7[h5.length]? = some (.lst ((histL w n oth (R + 3 + 1)).map encI)) := by rw [hh7, hh6]; exact app_at _ List.getElem?_concat_length
  have m7 : Md 0 n M bs ss bk sk h7 := by rw [hh7, hh6, hh5]; exact ((m4.more _).more _).more _
  have g7 : h7[K]? = some (.lst (l.map .int)) := old5 (by rw [hh5]; exact app_at _ g4)
  have lowK : ∀ s, Fits w n s → ∀ k, R ≤ k → LeS lo (hist w n s k) := fun s F k hk => by
    have := hist_more W W S S MM Fl0 F (least_le F) k
    rw [hist_rest rs0 k (Nat.le_trans R0.1 hk), re0, ← hlo] at this
    exact this
  have highK : ∀ s, Fits w n s → ∀ k, R ≤ k → LeS (hist w n s k) hi := fun s F k hk => by
    have := hist_more W W S S MM F Fg0 (great_le W F) k
    rw [hist_rest rs1 k (Nat.le_trans R0.2.1 hk), re1, ← hhi] at this
    exact this
  have b0 : atI [encI lo, encI hi] 0 = some (encI lo) := rfl
  have b1 : atI [encI lo, encI hi] 1 = some (encI hi) := rfl
  have z1 : ((R : Int) + 4) ≤ 1000000 := by omega
  have z2 : -1000000 ≤ ((R : Int) + 4) := by omega
  obtain ⟨FR, hFR⟩ : ∃ FR : Sd, FR = [some S0, some td, some (.int n), some w.enc, some (.int way), some (.ref K), some (encI one), some (encI oth), some BD, some (.int R), some (.ref KT)] := ⟨_, rfl⟩
  obtain ⟨σ', h', k1, k2, x, k3⟩ := forL_next (P := fun i σ h' => h' = h7 ∧ ∃ x, σ = FR ++ [x, none, none, none]) (g := none) (k := 0)
      (all := (List.range (R + 4)).map fun k : Nat => D.int k) (fun _ _ _ _ => trivial)
      (xs := (List.range (R + 4)).map fun k : Nat => D.int k) (tg := gN 11) (σ := FR ++ [none, none, none, none]) (h := h7) (b := B0_law) (by
      rintro i x σ h0 hx ⟨rfl, y, rfl⟩
      obtain ⟨hi', rfl⟩ := range_at' hx
      have v1 := histL_at (w := w) (n := n) (s := one) (m := R + 3 + 1) (i := i) hi'
      have v2 := histL_at (w := w) (n := n) (s := oth) (m := R + 3 + 1) (i := i) hi'
      have F1 := hist_fits W S Fo i
      have F2 := hist_fits W S Ft i
      have bl := ybelow (le30 n30) F1.len F2.len (hist_more W W S S MM Fo Ft le12 i) h0
      have a1 : fAt (fAt (fVar 10) (fC (.int 0))) (fVar 11) (FR ++ [some (.int i), none, none, none]) h0 = .ok (encI (hist w n one i)) h0 := by
        rw [hFR]; exact ev_at (ev_at rfl rfl (ev_seq gt) rfl) rfl (ev_seq ga) (by simpa using v1)
      have a2 : fAt (fAt (fVar 10) (fC (.int 1))) (fVar 11) (FR ++ [some (.int i), none, none, none]) h0 = .ok (encI (hist w n oth i)) h0 := by
        rw [hFR]; exact ev_at (ev_at rfl rfl (ev_seq gt) rfl) rfl (ev_seq gb) (by simpa using v2)
      have c0 : fAt (fVar 8) (fC (.int 0)) (FR ++ [some (.int i), none, none, none]) h0 = .ok (encI lo) h0 := by rw [hFR, hBD]; exact (ev_at rfl rfl rfl rfl)
      have c1 : fAt (fVar 8) (fC (.int 1)) (FR ++ [some (.int i), none, none, none]) h0 = .ok (encI hi) h0 := by rw [hFR, hBD]; exact (ev_at rfl rfl rfl rfl)
      have gE : fBin oGe (fVar 11) (fVar 9) (FR ++ [some (.int i), none, none, none]) h0 = .ok (.bl (decide (R ≤ i))) h0 := by
        rw [hFR]; exact (ev_bin rfl rfl rfl).trans (by simp)
      refine ⟨FR ++ [some (.int i), none, none, none], by rw [hFR]; rfl, FR ++ [some (.int i), none, none, none], h0, ?_, rfl, _, rfl⟩
      unfold B0_law
      refine (seq_nx' (ev_f (ev_not (ev_b (ev_call (ev_cons a1 (ev_cons a2 rfl)) bl))))).trans ?_
      by_cases e : R ≤ i
      · have bl2 := ybelow (le30 n30) Flo.len F1.len (lowK one Fo i e) h0
        have bl3 := ybelow (le30 n30) F2.len Fhi.len (highK oth Ft i e) h0
        rw [decide_eq_true e] at gE
        exact (seq_nx' (ev_f (ev_and (ev_b gE) (ev_not (ev_b (ev_call (ev_cons c0 (ev_cons a1 rfl)) bl2)))))).trans (ev_f (ev_and (ev_b gE) (ev_not (ev_b (ev_call (ev_cons a2 (ev_cons c1 rfl)) bl3)))))
      · rw [decide_eq_false e] at gE
        exact (seq_nx' (ev_f (ev_andf (ev_b gE)))).trans (ev_f (ev_andf (ev_b gE)))) ⟨rfl, none, rfl⟩
  have e10 : L10_law (FR ++ [none, none, none, none]) h7 = .nx (FR ++ [x, none, none, none]) h7 := by
    rw [k2, k3] at k1
    unfold L10_law
    have ad : fBin oAdd (fVar 9) (fC (.int 4)) (FR ++ [none, none, none, none]) h7 = .ok (.int ((R : Int) + 4)) h7 := by rw [hFR]; exact ev_bin rfl rfl rfl
    have tn : ((R : Int) + 4).toNat = R + 4 := by omega
    rw [sForR ad z2 z1 tn]
    exact k1
  have e11 : ∃ (y z : Option D) (g : Hd), L11_law (FR ++ [x, none, none, none]) h7 = .nx (FR ++ [x, y, z, none]) (h7 ++ g) := by
    have c0 : ∀ h, fAt (fVar 8) (fC (.int 0)) (FR ++ [x, none, none, none]) h = .ok (encI lo) h := fun h => by rw [hFR, hBD]; exact (ev_at rfl rfl rfl rfl)
    have c1 : ∀ h, fAt (fVar 8) (fC (.int 1)) (FR ++ [x, none, none, none]) h = .ok (encI hi) h := fun h => by rw [hFR, hBD]; exact (ev_at rfl rfl rfl rfl)
    have q := oEq_enc (a := lo) (b := hi) (by rw [Flo.len, Fhi.len]) h7
    have tt : tE (fBin oEq (fAt (fVar 8) (fC (.int 0))) (fAt (fVar 8) (fC (.int 1)))) (FR ++ [x, none, none, none]) h7 = .ok (decide (lo = hi)) h7 := by
      exact ev_b (ev_bin (c0 _) (c1 _) q)
    by_cases e : lo = hi
    · rw [decide_eq_true e] at tt
      obtain ⟨σ2, h8, j1, g, y, z, j2, j3⟩ := forL_next (P := fun i σ h' => ∃ (g : Hd) (y z : Option D), σ = FR ++ [x, y, z, none] ∧ h' = h7 ++ g) (g := none) (k := 0)
          (all := [encI one, encI oth]) (fun _ _ _ _ => trivial) (xs := [encI one, encI oth]) (tg := gN 12) (σ := FR ++ [x, none, none, none]) (h := h7) (b := B1_law) (by
          rintro i v σ h0 hx ⟨g, y, z, rfl, hh0⟩
          obtain ⟨st, hst, Fs⟩ : ∃ st, v = encI st ∧ Fits w n st := by
            have := List.mem_of_getElem? hx
            simp at this
            rcases this with q | q
            · exact ⟨one, q, Fo⟩
            · exact ⟨oth, q, Ft⟩
          subst hst
          have sq : ∀ k, R ≤ k → hist w n st k = lo := fun k hk => LeS.eq (by rw [(hist_fits W S Fs k).len, Flo.len]) (by rw [e]; exact highK st Fs k hk) (lowK st Fs k hk)
          obtain ⟨tt0, LS, eq, la⟩ := end_ended W S Fs (t := R) (by rw [sq (R + 1) (Nat.le_succ R), sq R (Nat.le_refl _)]) (by omega) h0
          rw [sq R (Nat.le_refl _)] at la
          obtain ⟨FD, hFD⟩ : ∃ FD : D, FD = .tup [.int tt0, .str [114, 101, 115, 116], .ref h0.length] := ⟨_, rfl⟩
          rw [← hFD] at eq
          have gl : (h0 ++ [Cell.lst LS])[h0.length]? = some (.lst LS) := List.getElem?_concat_length
          have p1 : fAt (fVar 13) (fC (.int 1)) (FR ++ [x, some (encI st), some FD, none]) (h0 ++ [.lst LS]) = .ok (.str [114, 101, 115, 116]) (h0 ++ [.lst LS]) := by
            rw [hFR, hFD]; exact (ev_at rfl rfl rfl rfl)
          have p2 : fAt (fAt (fVar 13) (fC (.int 2))) (fC (.int (-1))) (FR ++ [x, some (encI st), some FD, none]) (h0 ++ [.lst LS]) = .ok (encI lo) (h0 ++ [.lst LS]) := by
            rw [hFR, hFD]; exact ev_at (ev_at rfl rfl rfl rfl) rfl (ev_seq gl) la
          have p3 : fAt (fVar 8) (fC (.int 0)) (FR ++ [x, some (encI st), some FD, none]) (h0 ++ [.lst LS]) = .ok (encI lo) (h0 ++ [.lst LS]) := by rw [hFR, hBD]; exact (ev_at rfl rfl rfl rfl)
          have n1 : ∀ g, oNe (.str [114, 101, 115, 116]) (.str [114, 101, 115, 116]) g = .ok (.bl false) g := fun g => rfl
          have n2 := oNe_st lo (h0 ++ [.lst LS])
          have s1 : sSet (gN 13) (fCall F_ended (aCons (fVar 3) (aCons (fVar 12) aNil))) (FR ++ [x, some (encI st), z, none]) h0 = .nx (FR ++ [x, some (encI st), some FD, none]) (h0 ++ [.lst LS]) := by
            rw [hFR]; exact ev_set (ev_call (ev_2 rfl rfl) eq)
          refine ⟨FR ++ [x, some (encI st), z, none], by rw [hFR]; rfl, FR ++ [x, some (encI st), some FD, none], h0 ++ [.lst LS], ?_, g ++ [.lst LS], _, _, rfl, by rw [hh0]; simp⟩
          show sSeq _ _ (FR ++ [x, some (encI st), z, none]) h0 = _
          exact (seq_nx' s1).trans (ev_f (ev_or (ev_b (ev_bin p1 rfl (n1 _))) (ev_b (ev_bin p2 p3 n2))))) ⟨[], none, none, rfl, by simp⟩
      refine ⟨y, z, g, ?_⟩
      unfold L11_law
      rw [if_t tt]
      have it : iNew (aCons (fVar 6) (aCons (fVar 7) aNil)) (FR ++ [x, none, none, none]) h7 = .ok ([encI one, encI oth], none) h7 := by rw [hFR]; rfl
      exact (ev_for it j1).trans (by rw [j2, j3])
    · rw [decide_eq_false e] at tt
      exact ⟨none, none, [], by unfold L11_law; rw [if_f tt]; simp⟩
  obtain ⟨y, z, g8, e11⟩ := e11
  obtain ⟨h8, hh8⟩ : ∃ h8, h8 = h7 ++ g8 := ⟨_, rfl⟩
  rw [← hh8] at e11
  have m8 : Md 0 n M bs ss bk sk h8 := by rw [hh8]; exact m7.more _
  have g8' : h8[K]? = some (.lst (l.map .int)) := by rw [hh8]; exact app_at _ g7
  obtain ⟨d12, F12⟩ := drawn_ok m8 ll (f := fun x => if x = 1 then 1 else 0) (fun x => by split <;> simp) g8' (eqE 1) htd (σ := FR ++ [x, y, z, none]) (by rw [hFR]; rfl) (by rw [hFR]; rfl)
  obtain ⟨thr, hthr⟩ : ∃ thr, thr = fitL ss (l.map fun x => if x = 1 then 1 else 0) := ⟨_, rfl⟩
  obtain ⟨h9, hh9⟩ : ∃ h9, h9 = h8 ++ [Cell.lst ((l.map fun x => if x = 1 then (1 : Int) else 0).map .int)] := ⟨_, rfl⟩
  rw [← hthr, ← hh9] at d12
  rw [← hthr] at F12
  have e12 : L12_law (FR ++ [x, y, z, none]) h8 = .nx (FR ++ [x, y, z, some (encI thr)]) h9 := by
    rw [hFR] at d12 ⊢
    exact ev_set d12
  have m9 : Md 0 n M bs ss bk sk h9 := by rw [hh9]; exact m8.more _
  have F3 : Fits w n thr := by rw [hw]; exact F12.fits T bs
  obtain ⟨c1, cq1, cr1⟩ := calm_rest m9 LL hw W S Fo htd
  obtain ⟨c2, cq2, cr2⟩ := calm_rest m9 LL hw W S F3 htd
  have bq := bounds_ok m9 LL hw W S MM htd cr1 cr2
  have e13 : L13_law (FR ++ [x, y, z, some (encI thr)]) h9 = .nx (FR ++ [x, y, z, some (encI thr)]) h9 := by
    rw [hFR]; exact ev_f (ev_not (ev_b (ev_call (ev_cons rfl (ev_cons rfl (ev_cons (ev_call (ev_2 rfl rfl) cq1) (ev_cons (ev_call (ev_2 rfl rfl) cq2) rfl)))) bq)))
  have lelh : LeS lo hi := by
    have := lowK hi Fhi R (Nat.le_refl _)
    have e : ∀ k, hist w n hi k = hi := fun k => by
      induction k with
      | zero => rfl
      | succ k ih => rw [hist, ih]; exact rhi
    rwa [e] at this
  have mx : maxS lo hi = hi := LeS.eq (by rw [(max_fits W Flo Fhi).len, Fhi.len]) (max_lub Flo Fhi lelh (LeS.refl _)) (le_max Flo Fhi).2
  have mn : minS hi lo = lo := LeS.eq (by rw [(min_fits W Fhi Flo).len, Flo.len]) (min_le Fhi Flo).2 (min_glb Fhi Flo lelh (LeS.refl _))
  have jq := joined_ok W S Flo Fhi rlo rhi (t := 0) (by decide) (by rw [mx]; exact rhi) h9
  have tq := met_ok W S Fhi Flo rhi rlo (t := 0) (by decide) (by rw [mn]; exact rlo) h9
  rw [mx] at jq
  rw [mn] at tq
  have jq : F_joined [w.enc, encI lo, encI hi] h9 = .ok (encI hi) h9 := jq
  have tq : F_met [w.enc, encI hi, encI lo] h9 = .ok (encI lo) h9 := tq
  have e14 : L14_law (FR ++ [x, y, z, some (encI thr)]) h9 = .rt (.bl true) h9 := by
    have q0 : fAt (fVar 8) (fC (.int 0)) (FR ++ [x, y, z, some (encI thr)]) h9 = .ok (encI lo) h9 := by rw [hFR, hBD]; exact (ev_at rfl rfl rfl rfl)
    have q1 : fAt (fVar 8) (fC (.int 1)) (FR ++ [x, y, z, some (encI thr)]) h9 = .ok (encI hi) h9 := by rw [hFR, hBD]; exact (ev_at rfl rfl rfl rfl)
    have q3 : fVar 3 (FR ++ [x, y, z, some (encI thr)]) h9 = .ok w.enc h9 := by rw [hFR]; rfl
    have qU : oEq (encI hi) (encI hi) h9 = .ok (.bl true) h9 := by rw [oEq_enc rfl]; simp
    have qV : oEq (encI lo) (encI lo) h9 = .ok (.bl true) h9 := by rw [oEq_enc rfl]; simp
    exact ev_ret (ev_fT (ev_and (ev_b (ev_bin (ev_call (ev_cons q3 (ev_cons q0 (ev_cons q1 rfl))) jq) q1 qU)) (ev_b (ev_bin (ev_call (ev_cons q3 (ev_cons q1 (ev_cons q0 rfl))) tq) q0 qV))))
  refine ⟨[], ?_⟩
  have fin : letGo [] (.ok (.bl true) h9) = .ok (.bl true) [] := letGo_pure (h := []) (g := h9) rfl
  rw [← hS0]
  have st : ([S0].map some ++ List.replicate (15 - [S0].length) none : Sd) = [some S0, none, none, none, none, none, none, none, none, none, none, none, none, none, none] := rfl
  have j1 : ((XB S0 td n w.enc way K (some (encI one)) (some (encI oth)) (some BD) (some (.int R)) (some (.ref KT))) : Sd) = FR ++ [none, none, none, none] := by rw [hFR]; rfl
  rw [j1] at e9
  unfold F_law mkFn runB
  rw [if_pos (show [S0].length = 1 from rfl), st, seq_nx' e0, seq_nx' e1, seq_nx' e2, seq_nx' e3, seq_nx' e4, seq_nx' e5, seq_nx' e6, seq_nx' e7, seq_nx' e8, seq_nx' e9, seq_nx' e10, seq_nx' e11, seq_nx' e12, seq_nx' e13, e14]
  exact fin
end Fm
set_option Elab.async false
set_option linter.all false
set_option maxRecDepth 100000
set_option maxHeartbeats 4000000
namespace Fm
open PySem PySem.Spec L2
section
noncomputable abbrev topS (i : Nat) : Stmt := PySem.Challenge.pw_followmost_k25_whole_all_between.main.body.getD i (.Pass ⟨0, 0, 0, 0⟩)
noncomputable abbrev s_is_whole : Stmt := topS 7
noncomputable abbrev s_is_between : Stmt := topS 8
noncomputable abbrev s_is_opinion : Stmt := topS 9
noncomputable abbrev s_is_tie : Stmt := topS 20
noncomputable abbrev s_neighbours : Stmt := topS 19
noncomputable abbrev s_bars_told : Stmt := topS 21
noncomputable abbrev s_stays_told : Stmt := topS 22
noncomputable abbrev s_web_of : Stmt := topS 13
noncomputable abbrev s_many_of : Stmt := topS 14
noncomputable abbrev s_ties_of : Stmt := topS 15
noncomputable abbrev s_bar_of : Stmt := topS 16
noncomputable abbrev s_stay_of : Stmt := topS 17
noncomputable abbrev s_stays_of : Stmt := topS 18
noncomputable abbrev s_fits : Stmt := topS 24
noncomputable abbrev s_check_stand : Stmt := topS 25
noncomputable abbrev s_pull_at : Stmt := topS 26
noncomputable abbrev s_next_at : Stmt := topS 27
noncomputable abbrev s_turn_at : Stmt := topS 28
noncomputable abbrev s_history : Stmt := topS 31
noncomputable abbrev s_ended : Stmt := topS 32
noncomputable abbrev s_is_rest : Stmt := topS 34
noncomputable abbrev s_end_of : Stmt := topS 42
noncomputable abbrev s_stand_of_all : Stmt := topS 41
noncomputable abbrev s_least_rest : Stmt := topS 36
noncomputable abbrev s_greatest_rest : Stmt := topS 37
noncomputable abbrev s_check_rests : Stmt := topS 40
noncomputable abbrev s_joined : Stmt := topS 38
noncomputable abbrev s_met : Stmt := topS 39
noncomputable abbrev s__law_cell : Stmt := topS 44
noncomputable abbrev s__law_row : Stmt := topS 45
noncomputable abbrev s__law_model : Stmt := topS 46
noncomputable abbrev s__law_lines : Stmt := topS 47
noncomputable abbrev s__law_turn : Stmt := topS 48
noncomputable abbrev s__law_fitting : Stmt := topS 49
noncomputable abbrev s__law_made : Stmt := topS 50
noncomputable abbrev s__law_below : Stmt := topS 51
noncomputable abbrev s__law_far : Stmt := topS 52
noncomputable abbrev s__law_calm : Stmt := topS 53
noncomputable abbrev s__law_bounds_right : Stmt := topS 54
noncomputable abbrev s_law : Stmt := topS 55
variable {P : Program} {w : World} {K : PySem.W.Frag} {mg : Str → Option Value} {base : Heap} {f : Addr} {fd : FuncData}
theorem sc_is_whole : FnScope ["thing"] ["thing"] (defScope s_is_whole) := ⟨rfl, rfl, rfl, by decide +kernel, rfl, by decide +kernel, by decide +kernel⟩
theorem ok_is_whole (F : Fun K "is_whole" "is_whole" s_is_whole f fd) (m_isinstance : mg "isinstance" = none) (m_bool : mg "bool" = none) (m_int : mg "int" = none) : FnOk P w K mg base CX0 1 f fd ["thing"] (spF K F_is_whole 1) := by
  refine fn_mk F sc_is_whole fun cdv A outer s H E hr => ?_
  have hu := hu24 hr
  exact (mss_one (ms_ret (MB.me (mb_and (mb_of (me_isTy (t := .int) rfl m_isinstance rfl m_int (by decide +kernel) (mv 0))) (mb_one (mb_not (mb_of (me_isTy (t := .bool) rfl m_isinstance rfl m_bool (by decide +kernel) (mv 0)))))))))
theorem sc_is_between : FnScope ["thing", "least", "most"] ["thing", "least", "most"] (defScope s_is_between) := ⟨rfl, rfl, rfl, by decide +kernel, rfl, by decide +kernel, by decide +kernel⟩
theorem ok_is_between (F : Fun K "is_between" "is_between" s_is_between f fd) (c_is_whole : Def P w K mg base "is_whole" 1 1 F_is_whole) : FnOk P w K mg base CX0 2 f fd ["thing", "least", "most"] (spF K F_is_between 3) := by
  refine fn_mk F sc_is_between fun cdv A outer s H E hr => ?_
  have hu := hu24 hr
  exact (mss_one (ms_ret (MB.me (mb_and (mb_of (me_call c_is_whole (hr.mono (by decide)) rfl (ma_cons (mv 0) ma_nil) mkFn_np)) (mb_one (mb_of (me_chain op_le op_le og_B og_B (mv 1) (mv 0) (mv 2))))))))
theorem sc_is_opinion : FnScope ["thing"] ["thing"] (defScope s_is_opinion) := ⟨rfl, rfl, rfl, by decide +kernel, rfl, by decide +kernel, by decide +kernel⟩
theorem ok_is_opinion (F : Fun K "is_opinion" "is_opinion" s_is_opinion f fd) (c_is_between : Def P w K mg base "is_between" 2 3 F_is_between) : FnOk P w K mg base CX0 3 f fd ["thing"] (spF K F_is_opinion 1) := by
  refine fn_mk F sc_is_opinion fun cdv A outer s H E hr => ?_
  have hu := hu24 hr
  exact (mss_one (ms_ret (me_call c_is_between (hr.mono (by decide)) rfl (ma_cons (mv 0) (ma_cons me_int (ma_cons me_int ma_nil))) mkFn_np)))
theorem sc_is_tie : FnScope ["many", "thing", "one", "other"] ["many", "thing"] (defScope s_is_tie) := ⟨rfl, rfl, rfl, by decide +kernel, rfl, by decide +kernel, by decide +kernel⟩
theorem ok_is_tie (F : Fun K "is_tie" "is_tie" s_is_tie f fd) (m_len : mg "len" = none) (m_isinstance : mg "isinstance" = none) (m_tuple : mg "tuple" = none) {t_MOST_WEIGHT : Tok} (g_MOST_WEIGHT : mg "MOST_WEIGHT" = some (.int 400 t_MOST_WEIGHT)) (c_is_between : Def P w K mg base "is_between" 2 3 F_is_between) : FnOk P w K mg base CX0 3 f fd ["many", "thing"] (spF K F_is_tie 2) := by
  refine fn_mk F sc_is_tie fun cdv A outer s H E hr => ?_
  have hu := hu24 hr
  exact (mss_cons (ms_if (MW.mt (mw_or (mt_not (mt_val (me_isTy (t := .tuple) rfl m_isinstance rfl m_tuple (by decide +kernel) (mv 1)))) (mw_one (mt_cmp (op_neG hu) og_ne (me_len rfl m_len (mq_of (mv 1))) me_int (nomark _)) (.inr rfl)))) (mss_one (ms_ret me_bl)) mss_nil)
    (mss_cons (ms_set (i := 2) sc_is_tie.nd rfl (by first | exact .inl rfl | exact .inr rfl) (me_at (mv 1) me_int (fun _ _ => rfl)))
    (mss_cons (ms_set (i := 3) sc_is_tie.nd rfl (by first | exact .inl rfl | exact .inr rfl) (me_at (mv 1) me_int (fun _ _ => rfl)))
    (mss_cons (ms_if (MW.mt (mw_or (mt_not (mt_val (me_call c_is_between (hr.mono (by decide)) rfl (ma_cons (mv 2) (ma_cons me_int (ma_cons (me_op op_sub og_I (mv 0) me_int) ma_nil))) mkFn_np))) (mw_one (mt_not (mt_val (me_call c_is_between (hr.mono (by decide)) rfl (ma_cons (mv 3) (ma_cons me_int (ma_cons (me_op op_sub og_I (mv 0) me_int) ma_nil))) mkFn_np))) (.inr rfl)))) (mss_one (ms_ret me_bl)) mss_nil)
    (mss_one (ms_ret (MB.me (mb_and (mb_of (me_cmp (op_neG hu) og_ne (mv 2) (mv 3) (nomark _))) (mb_one (mb_of (me_call c_is_between (hr.mono (by decide)) rfl (ma_cons (me_at (mv 1) me_int (fun _ _ => rfl)) (ma_cons me_int (ma_cons (me_globI rfl g_MOST_WEIGHT) ma_nil))) mkFn_np)))))))))))
theorem sc_neighbours : FnScope ["many", "ties", "near", "tie", "one", "other"] ["many", "ties"] (defScope s_neighbours) := ⟨rfl, rfl, rfl, by decide +kernel, rfl, by decide +kernel, by decide +kernel⟩
theorem ok_neighbours (F : Fun K "neighbours" "neighbours" s_neighbours f fd) (m_range : mg "range" = none) (m_isinstance : mg "isinstance" = none) (m_list : mg "list" = none) (c_is_tie : Def P w K mg base "is_tie" 3 2 F_is_tie) : FnOk P w K mg base CX0 4 f fd ["many", "ties"] (spF K F_neighbours 2) := by
  refine fn_mk F sc_neighbours fun cdv A outer s H E hr => ?_
  have hu := hu24 hr
  exact (mss_cons (ms_if (mt_not (mt_val (me_isTy (t := .list) rfl m_isinstance rfl m_list (by decide +kernel) (mv 1)))) (mss_one ms_bad) mss_nil)
    (mss_cons (ms_setC (i := 2) sc_neighbours.nd rfl (by first | exact .inl rfl | exact .inr rfl) (own := ["person"]) (capn := []) (caps := []) rfl (CScope.mk' rfl (by decide +kernel) (by decide +kernel) (by repeat' (first | exact FreeIn.nil | refine FreeIn.cons (by first | exact (fun _ => .inl rfl) | exact (fun _ => .inr rfl) | (intro z; cases z; done)) ?_)) CapIn.nil) (mi_range rfl m_range (mv 0))
      (fun cl C s H ex => ⟨(mg_name (i := 0) (show ((["person"] : List Str) ++ ([] : List Str)).Nodup by decide +kernel) rfl (by first | exact .inl rfl | exact .inr rfl)), mts_nil, me_dnew⟩))
    (mss_cons (ms_for PassesOwn.never rfl (mi_seq (mv 1)) (mg_name (i := 3) sc_neighbours.nd rfl (by first | exact .inl rfl | exact .inr rfl)) (mss_cons (ms_if (mt_not (mt_val (me_call c_is_tie (hr.mono (by decide)) rfl (ma_cons (mv 0) (ma_cons (mv 3) ma_nil)) mkFn_np))) (mss_one ms_bad) mss_nil)
    (mss_cons (ms_set (i := 4) sc_neighbours.nd rfl (by first | exact .inl rfl | exact .inr rfl) (me_at (mv 3) me_int (fun _ _ => rfl)))
    (mss_cons (ms_set (i := 5) sc_neighbours.nd rfl (by first | exact .inl rfl | exact .inr rfl) (me_at (mv 3) me_int (fun _ _ => rfl)))
    (mss_cons (ms_if (mt_cmp (op_inD (Nat.lt_of_le_of_lt (Nat.add_le_add_left (by decide) _) hu)) og_inD (mv 5) (me_at (mv 2) (mv 4) (fun _ _ => rfl)) rfl) (mss_one ms_bad) mss_nil)
    (mss_cons (ms_putD (Nat.lt_of_le_of_lt (Nat.add_le_add_left (by decide) _) hu) (me_at (mv 3) me_int (fun _ _ => rfl)) (me_at (mv 2) (mv 4) (fun _ _ => rfl)) (mv 5))
    (mss_one (ms_putD (Nat.lt_of_le_of_lt (Nat.add_le_add_left (by decide) _) hu) (me_at (mv 3) me_int (fun _ _ => rfl)) (me_at (mv 2) (mv 5) (fun _ _ => rfl)) (mv 4)))))))))
    (mss_one (ms_ret (mv 2))))))
theorem sc_bars_told : FnScope ["near", "bars"] ["near", "bars"] (defScope s_bars_told) := ⟨rfl, rfl, rfl, by decide +kernel, rfl, by decide +kernel, by decide +kernel⟩
theorem ok_bars_told (F : Fun K "bars_told" "bars_told" s_bars_told f fd) (m_tuple : mg "tuple" = none) (m_all : mg "all" = none) (m_len : mg "len" = none) (m_isinstance : mg "isinstance" = none) (m_list : mg "list" = none) (c_is_whole : Def P w K mg base "is_whole" 1 1 F_is_whole) : FnOk P w K mg base CX0 2 f fd ["near", "bars"] (spF K F_bars_told 2) := by
  refine fn_mk F sc_bars_told fun cdv A outer s H E hr => ?_
  have hu := hu24 hr
  exact (mss_cons (ms_if (mt_cmp op_isN og_isN (mv 1) me_non (nomark _)) (mss_one ms_bad) mss_nil)
    (mss_cons (ms_if (MW.mt (mw_or (mt_not (mt_val (me_isTy (t := .list) rfl m_isinstance rfl m_list (by decide +kernel) (mv 1)))) (mw_one (mt_cmp (op_neG hu) og_ne (me_len rfl m_len (mq_of (mv 1))) (me_len rfl m_len (mq_of (mv 0))) (nomark _)) (.inr rfl)))) (mss_one ms_bad) mss_nil)
    (mss_cons (ms_if (mt_not (mt_val (me_all rfl rfl m_all (mq_new (mf_comp (own := ["bar"]) (capn := []) (caps := []) rfl (CScope.mk' rfl (by decide +kernel) (by decide +kernel) (by repeat' (first | exact FreeIn.nil | refine FreeIn.cons (by first | exact (fun _ => .inl rfl) | exact (fun _ => .inr rfl) | (intro z; cases z; done)) ?_)) CapIn.nil) (mi_seq (mv 1))
      (fun cl C s H ex => ⟨(mg_name (i := 0) (show ((["bar"] : List Str) ++ ([] : List Str)).Nodup by decide +kernel) rfl (by first | exact .inl rfl | exact .inr rfl)), mts_nil, (me_call c_is_whole (hr.mono (by decide)) rfl (ma_cons (mv 0) ma_nil) mkFn_np)⟩)))))) (mss_one ms_bad) mss_nil)
    (mss_one (ms_ret (me_tupL rfl m_tuple (mq_of (mv 1))))))))
theorem sc_stays_told : FnScope ["many", "stays"] ["many", "stays"] (defScope s_stays_told) := ⟨rfl, rfl, rfl, by decide +kernel, rfl, by decide +kernel, by decide +kernel⟩
theorem ok_stays_told (F : Fun K "stays_told" "stays_told" s_stays_told f fd) (m_tuple : mg "tuple" = none) (m_all : mg "all" = none) (m_len : mg "len" = none) (m_isinstance : mg "isinstance" = none) (m_list : mg "list" = none) (m_range : mg "range" = none) (c_is_opinion : Def P w K mg base "is_opinion" 3 1 F_is_opinion) : FnOk P w K mg base CX0 4 f fd ["many", "stays"] (spF K F_stays_told 2) := by
  refine fn_mk F sc_stays_told fun cdv A outer s H E hr => ?_
  have hu := hu24 hr
  exact (mss_cons (ms_if (mt_cmp op_isN og_isN (mv 1) me_non (nomark _)) (mss_one (ms_ret (me_tupL rfl m_tuple (mq_new (mf_comp (own := ["person"]) (capn := []) (caps := []) rfl (CScope.mk' rfl (by decide +kernel) (by decide +kernel) (by repeat' (first | exact FreeIn.nil | refine FreeIn.cons (by first | exact (fun _ => .inl rfl) | exact (fun _ => .inr rfl) | (intro z; cases z; done)) ?_)) CapIn.nil) (mi_range rfl m_range (mv 0))
      (fun cl C s H ex => ⟨(mg_name (i := 0) (show ((["person"] : List Str) ++ ([] : List Str)).Nodup by decide +kernel) rfl (by first | exact .inl rfl | exact .inr rfl)), mts_nil, me_non⟩)))))) mss_nil)
    (mss_cons (ms_if (MW.mt (mw_or (mt_not (mt_val (me_isTy (t := .list) rfl m_isinstance rfl m_list (by decide +kernel) (mv 1)))) (mw_one (mt_cmp (op_neG hu) og_ne (me_len rfl m_len (mq_of (mv 1))) (mv 0) (nomark _)) (.inr rfl)))) (mss_one ms_bad) mss_nil)
    (mss_cons (ms_if (mt_not (mt_val (me_all rfl rfl m_all (mq_new (mf_comp (own := ["stay"]) (capn := []) (caps := []) rfl (CScope.mk' rfl (by decide +kernel) (by decide +kernel) (by repeat' (first | exact FreeIn.nil | refine FreeIn.cons (by first | exact (fun _ => .inl rfl) | exact (fun _ => .inr rfl) | (intro z; cases z; done)) ?_)) CapIn.nil) (mi_seq (mv 1))
      (fun cl C s H ex => ⟨(mg_name (i := 0) (show ((["stay"] : List Str) ++ ([] : List Str)).Nodup by decide +kernel) rfl (by first | exact .inl rfl | exact .inr rfl)), mts_nil, (MB.me (mb_or (mb_of (me_cmp op_isN og_isN (mv 0) me_non (nomark _))) (mb_one (mb_of (me_call c_is_opinion (hr.mono (by decide)) rfl (ma_cons (mv 0) ma_nil) mkFn_np)))))⟩)))))) (mss_one ms_bad) mss_nil)
    (mss_one (ms_ret (me_tupL rfl m_tuple (mq_of (mv 1))))))))
theorem sc_web_of : FnScope ["many", "ties", "bars", "stays", "near", "rows"] ["many", "ties", "bars", "stays"] (defScope s_web_of) := ⟨rfl, rfl, rfl, by decide +kernel, rfl, by decide +kernel, by decide +kernel⟩
theorem ok_web_of (F : Fun K "web_of" "web_of" s_web_of f fd) (m_tuple : mg "tuple" = none) (m_sorted : mg "sorted" = none) {t_MOST_PEOPLE : Tok} (g_MOST_PEOPLE : mg "MOST_PEOPLE" = some (.int 30 t_MOST_PEOPLE)) (c_stays_told : Def P w K mg base "stays_told" 4 2 F_stays_told) (c_bars_told : Def P w K mg base "bars_told" 2 2 F_bars_told) (c_neighbours : Def P w K mg base "neighbours" 4 2 F_neighbours) (c_is_between : Def P w K mg base "is_between" 2 3 F_is_between) : FnOk P w K mg base CX0 5 f fd ["many", "ties", "bars", "stays"] (spF K F_web_of 4) := by
  refine fn_mk F sc_web_of fun cdv A outer s H E hr => ?_
  have hu := hu24 hr
  exact (mss_cons (ms_if (mt_not (mt_val (me_call c_is_between (hr.mono (by decide)) rfl (ma_cons (mv 0) (ma_cons me_int (ma_cons (me_globI rfl g_MOST_PEOPLE) ma_nil))) mkFn_np))) (mss_one ms_bad) mss_nil)
    (mss_cons (ms_set (i := 4) sc_web_of.nd rfl (by first | exact .inl rfl | exact .inr rfl) (me_call c_neighbours (hr.mono (by decide)) rfl (ma_cons (mv 0) (ma_cons (mv 1) ma_nil)) mkFn_np))
    (mss_cons (ms_set (i := 5) sc_web_of.nd rfl (by first | exact .inl rfl | exact .inr rfl) (me_tupL rfl m_tuple (mq_new (mf_comp (own := ["row"]) (capn := []) (caps := []) rfl (CScope.mk' rfl (by decide +kernel) (by decide +kernel) (by repeat' (first | exact FreeIn.nil | refine FreeIn.cons (by first | exact (fun _ => .inl rfl) | exact (fun _ => .inr rfl) | (intro z; cases z; done)) ?_)) CapIn.nil) (mi_seq (mv 4))
      (fun cl C s H ex => ⟨(mg_name (i := 0) (show ((["row"] : List Str) ++ ([] : List Str)).Nodup by decide +kernel) rfl (by first | exact .inl rfl | exact .inr rfl)), mts_nil, (me_tupL rfl m_tuple (mq_new (mf_sortI rfl rfl m_sorted (mv 0))))⟩)))))
    (mss_one (ms_ret (me_tup (ma_cons (mv 5) (ma_cons (me_call c_bars_told (hr.mono (by decide)) rfl (ma_cons (mv 4) (ma_cons (mv 2) ma_nil)) mkFn_np) (ma_cons (me_call c_stays_told (hr.mono (by decide)) rfl (ma_cons (mv 0) (ma_cons (mv 3) ma_nil)) mkFn_np) ma_nil)))))))))
theorem sc_many_of : FnScope ["web"] ["web"] (defScope s_many_of) := ⟨rfl, rfl, rfl, by decide +kernel, rfl, by decide +kernel, by decide +kernel⟩
theorem ok_many_of (F : Fun K "many_of" "many_of" s_many_of f fd) (m_len : mg "len" = none) : FnOk P w K mg base CX0 1 f fd ["web"] (spF K F_many_of 1) := by
  refine fn_mk F sc_many_of fun cdv A outer s H E hr => ?_
  have hu := hu24 hr
  exact (mss_one (ms_ret (me_len rfl m_len (mq_of (me_at (mv 0) me_int (fun _ _ => rfl))))))
theorem sc_ties_of : FnScope ["web", "person"] ["web", "person"] (defScope s_ties_of) := ⟨rfl, rfl, rfl, by decide +kernel, rfl, by decide +kernel, by decide +kernel⟩
theorem ok_ties_of (F : Fun K "ties_of" "ties_of" s_ties_of f fd) : FnOk P w K mg base CX0 1 f fd ["web", "person"] (spF K F_ties_of 2) := by
  refine fn_mk F sc_ties_of fun cdv A outer s H E hr => ?_
  have hu := hu24 hr
  exact (mss_one (ms_ret (me_at (me_at (mv 0) me_int (fun _ _ => rfl)) (mv 1) (fun _ _ => rfl))))
theorem sc_bar_of : FnScope ["web", "person"] ["web", "person"] (defScope s_bar_of) := ⟨rfl, rfl, rfl, by decide +kernel, rfl, by decide +kernel, by decide +kernel⟩
theorem ok_bar_of (F : Fun K "bar_of" "bar_of" s_bar_of f fd) : FnOk P w K mg base CX0 1 f fd ["web", "person"] (spF K F_bar_of 2) := by
  refine fn_mk F sc_bar_of fun cdv A outer s H E hr => ?_
  have hu := hu24 hr
  exact (mss_one (ms_ret (me_at (me_at (mv 0) me_int (fun _ _ => rfl)) (mv 1) (fun _ _ => rfl))))
theorem sc_stay_of : FnScope ["web", "person"] ["web", "person"] (defScope s_stay_of) := ⟨rfl, rfl, rfl, by decide +kernel, rfl, by decide +kernel, by decide +kernel⟩
theorem ok_stay_of (F : Fun K "stay_of" "stay_of" s_stay_of f fd) : FnOk P w K mg base CX0 1 f fd ["web", "person"] (spF K F_stay_of 2) := by
  refine fn_mk F sc_stay_of fun cdv A outer s H E hr => ?_
  have hu := hu24 hr
  exact (mss_one (ms_ret (me_at (me_at (mv 0) me_int (fun _ _ => rfl)) (mv 1) (fun _ _ => rfl))))
theorem sc_stays_of : FnScope ["web"] ["web"] (defScope s_stays_of) := ⟨rfl, rfl, rfl, by decide +kernel, rfl, by decide +kernel, by decide +kernel⟩
theorem ok_stays_of (F : Fun K "stays_of" "stays_of" s_stays_of f fd) (m_list : mg "list" = none) : FnOk P w K mg base CX0 1 f fd ["web"] (spF K F_stays_of 1) := by
  refine fn_mk F sc_stays_of fun cdv A outer s H E hr => ?_
  have hu := hu24 hr
  exact (mss_one (ms_ret (me_new (mf_list rfl m_list (mq_of (me_at (mv 0) me_int (fun _ _ => rfl)))))))
theorem sc_fits : FnScope ["web", "thing", "person", "opinion", "stay"] ["web", "thing"] (defScope s_fits) := ⟨rfl, rfl, rfl, by decide +kernel, rfl, by decide +kernel, by decide +kernel⟩
theorem ok_fits (F : Fun K "fits" "fits" s_fits f fd) (m_enumerate : mg "enumerate" = none) (m_len : mg "len" = none) (m_isinstance : mg "isinstance" = none) (m_tuple : mg "tuple" = none) (c_stay_of : Def P w K mg base "stay_of" 1 2 F_stay_of) (c_is_opinion : Def P w K mg base "is_opinion" 3 1 F_is_opinion) (c_many_of : Def P w K mg base "many_of" 1 1 F_many_of) : FnOk P w K mg base CX0 4 f fd ["web", "thing"] (spF K F_fits 2) := by
  refine fn_mk F sc_fits fun cdv A outer s H E hr => ?_
  have hu := hu24 hr
  exact (mss_cons (ms_if (MW.mt (mw_or (mt_not (mt_val (me_isTy (t := .tuple) rfl m_isinstance rfl m_tuple (by decide +kernel) (mv 1)))) (mw_one (mt_cmp (op_neG hu) og_ne (me_len rfl m_len (mq_of (mv 1))) (me_call c_many_of (hr.mono (by decide)) rfl (ma_cons (mv 0) ma_nil) mkFn_np) (nomark _)) (.inr rfl)))) (mss_one (ms_ret me_bl)) mss_nil)
    (mss_cons (ms_for PassesOwn.never rfl (mi_enum rfl m_enumerate (mv 1)) (mg_tup rfl (mgs_cons (mg_name (i := 2) sc_fits.nd rfl (by first | exact .inl rfl | exact .inr rfl)) (mgs_cons (mg_name (i := 3) sc_fits.nd rfl (by first | exact .inl rfl | exact .inr rfl)) mgs_nil))) (mss_cons (ms_if (mt_not (mt_val (me_call c_is_opinion (hr.mono (by decide)) rfl (ma_cons (mv 3) ma_nil) mkFn_np))) (mss_one (ms_ret me_bl)) mss_nil)
    (mss_cons (ms_set (i := 4) sc_fits.nd rfl (by first | exact .inl rfl | exact .inr rfl) (me_call c_stay_of (hr.mono (by decide)) rfl (ma_cons (mv 0) (ma_cons (mv 2) ma_nil)) mkFn_np))
    (mss_one (ms_if (MW.mt (mw_and (mt_cmp op_notN og_isNotN (mv 4) me_non (nomark _)) (mw_one (mt_cmp (op_neG hu) og_ne (mv 3) (mv 4) (nomark _)) (.inl rfl)))) (mss_one (ms_ret me_bl)) mss_nil)))))
    (mss_one (ms_ret me_bl))))
theorem sc_check_stand : FnScope ["web", "thing"] ["web", "thing"] (defScope s_check_stand) := ⟨rfl, rfl, rfl, by decide +kernel, rfl, by decide +kernel, by decide +kernel⟩
theorem ok_check_stand (F : Fun K "check_stand" "check_stand" s_check_stand f fd) (c_fits : Def P w K mg base "fits" 4 2 F_fits) : FnOk P w K mg base CX0 5 f fd ["web", "thing"] (spF K F_check_stand 2) := by
  refine fn_mk F sc_check_stand fun cdv A outer s H E hr => ?_
  have hu := hu24 hr
  exact (mss_one (ms_if (mt_not (mt_val (me_call c_fits (hr.mono (by decide)) rfl (ma_cons (mv 0) (ma_cons (mv 1) ma_nil)) mkFn_np))) (mss_one ms_bad) mss_nil))
theorem sc_pull_at : FnScope ["web", "stand", "person"] ["web", "stand", "person"] (defScope s_pull_at) := ⟨rfl, rfl, rfl, by decide +kernel, rfl, by decide +kernel, by decide +kernel⟩
theorem ok_pull_at (F : Fun K "pull_at" "pull_at" s_pull_at f fd) (m_sum : mg "sum" = none) (c_ties_of : Def P w K mg base "ties_of" 1 2 F_ties_of) : FnOk P w K mg base CX0 2 f fd ["web", "stand", "person"] (spF K F_pull_at 3) := by
  refine fn_mk F sc_pull_at fun cdv A outer s H E hr => ?_
  have hu := hu24 hr
  exact (mss_one (ms_ret (me_op op_mul og_mul me_int (me_sum rfl rfl m_sum (mq_new (mf_comp (own := ["other", "weight"]) (capn := ["stand"]) (caps := [1]) rfl (CScope.mk' rfl (by decide +kernel) (by decide +kernel) (by repeat' (first | exact FreeIn.nil | refine FreeIn.cons (by first | exact (fun _ => .inl rfl) | exact (fun _ => .inr rfl) | (intro z; cases z; done)) ?_)) (CapIn.cons rfl rfl CapIn.nil)) (mi_seq (me_call c_ties_of (hr.mono (by decide)) rfl (ma_cons (mv 0) (ma_cons (mv 2) ma_nil)) mkFn_np))
      (fun cl C s H ex => ⟨(mg_tup rfl (mgs_cons (mg_name (i := 0) (show ((["other", "weight"] : List Str) ++ (["stand"] : List Str)).Nodup by decide +kernel) rfl (by first | exact .inl rfl | exact .inr rfl)) (mgs_cons (mg_name (i := 1) (show ((["other", "weight"] : List Str) ++ (["stand"] : List Str)).Nodup by decide +kernel) rfl (by first | exact .inl rfl | exact .inr rfl)) mgs_nil))), (mts_one (mt_cmp (op_eqG hu) og_eq (me_at (mv 2) (mv 0) (fun _ _ => rfl)) me_int (nomark _))), (mv 1)⟩)))))))
theorem sc_next_at : FnScope ["web", "stand", "person", "stay", "strength", "bar"] ["web", "stand", "person"] (defScope s_next_at) := ⟨rfl, rfl, rfl, by decide +kernel, rfl, by decide +kernel, by decide +kernel⟩
theorem ok_next_at (F : Fun K "next_at" "next_at" s_next_at f fd) (c_bar_of : Def P w K mg base "bar_of" 1 2 F_bar_of) (c_pull_at : Def P w K mg base "pull_at" 2 3 F_pull_at) (c_stay_of : Def P w K mg base "stay_of" 1 2 F_stay_of) : FnOk P w K mg base CX0 3 f fd ["web", "stand", "person"] (spF K F_next_at 3) := by
  refine fn_mk F sc_next_at fun cdv A outer s H E hr => ?_
  have hu := hu24 hr
  exact (mss_cons (ms_set (i := 3) sc_next_at.nd rfl (by first | exact .inl rfl | exact .inr rfl) (me_call c_stay_of (hr.mono (by decide)) rfl (ma_cons (mv 0) (ma_cons (mv 2) ma_nil)) mkFn_np))
    (mss_cons (ms_if (mt_cmp op_notN og_isNotN (mv 3) me_non (nomark _)) (mss_one (ms_ret (mv 3))) mss_nil)
    (mss_cons (ms_set (i := 4) sc_next_at.nd rfl (by first | exact .inl rfl | exact .inr rfl) (me_call c_pull_at (hr.mono (by decide)) rfl (ma_cons (mv 0) (ma_cons (mv 1) (ma_cons (mv 2) ma_nil))) mkFn_np))
    (mss_cons (ms_set (i := 5) sc_next_at.nd rfl (by first | exact .inl rfl | exact .inr rfl) (me_call c_bar_of (hr.mono (by decide)) rfl (ma_cons (mv 0) (ma_cons (mv 2) ma_nil)) mkFn_np))
    (mss_cons (ms_if (mt_cmp (op_eqG hu) og_eq (mv 4) (mv 5) (nomark _)) (mss_one (ms_ret (me_at (mv 1) (mv 2) (fun _ _ => rfl)))) mss_nil)
    (mss_one (ms_ret (me_if (mt_cmp op_gt og_B (mv 4) (mv 5) (nomark _)) me_int me_int))))))))
theorem sc_turn_at : FnScope ["web", "stand"] ["web", "stand"] (defScope s_turn_at) := ⟨rfl, rfl, rfl, by decide +kernel, rfl, by decide +kernel, by decide +kernel⟩
theorem ok_turn_at (F : Fun K "turn_at" "turn_at" s_turn_at f fd) (m_tuple : mg "tuple" = none) (m_range : mg "range" = none) (c_many_of : Def P w K mg base "many_of" 1 1 F_many_of) (c_next_at : Def P w K mg base "next_at" 3 3 F_next_at) : FnOk P w K mg base CX0 4 f fd ["web", "stand"] (spF K F_turn_at 2) := by
  refine fn_mk F sc_turn_at fun cdv A outer s H E hr => ?_
  have hu := hu24 hr
  exact (mss_one (ms_ret (me_tupL rfl m_tuple (mq_new (mf_comp (own := ["person"]) (capn := ["web", "stand"]) (caps := [0, 1]) rfl (CScope.mk' rfl (by decide +kernel) (by decide +kernel) (by repeat' (first | exact FreeIn.nil | refine FreeIn.cons (by first | exact (fun _ => .inl rfl) | exact (fun _ => .inr rfl) | (intro z; cases z; done)) ?_)) (CapIn.cons rfl rfl (CapIn.cons rfl rfl CapIn.nil))) (mi_range rfl m_range (me_call c_many_of (hr.mono (by decide)) rfl (ma_cons (mv 0) ma_nil) mkFn_np))
      (fun cl C s H ex => ⟨(mg_name (i := 0) (show ((["person"] : List Str) ++ (["web", "stand"] : List Str)).Nodup by decide +kernel) rfl (by first | exact .inl rfl | exact .inr rfl)), mts_nil, (me_call c_next_at (hr.mono (by decide)) rfl (ma_cons (mv 1) (ma_cons (mv 2) (ma_cons (mv 0) ma_nil))) mkFn_np)⟩))))))
theorem sc_history : FnScope ["web", "stand", "turns", "stands", "place"] ["web", "stand", "turns"] (defScope s_history) := ⟨rfl, rfl, rfl, by decide +kernel, rfl, by decide +kernel, by decide +kernel⟩
theorem ok_history (F : Fun K "history" "history" s_history f fd) (m_range : mg "range" = none) {t_MOST_TURNS : Tok} (g_MOST_TURNS : mg "MOST_TURNS" = some (.int 400 t_MOST_TURNS)) (c_turn_at : Def P w K mg base "turn_at" 4 2 F_turn_at) (c_check_stand : Def P w K mg base "check_stand" 5 2 F_check_stand) : FnOk P w K mg base CX0 6 f fd ["web", "stand", "turns"] (spF K F_history 3) := by
  refine fn_mk F sc_history fun cdv A outer s H E hr => ?_
  have hu := hu24 hr
  exact (mss_cons (ms_expr (me_call c_check_stand (hr.mono (by decide)) rfl (ma_cons (mv 0) (ma_cons (mv 1) ma_nil)) mkFn_np))
    (mss_cons (ms_if (mt_cmp op_gt og_B (mv 2) (me_globI rfl g_MOST_TURNS) (nomark _)) (mss_one ms_bad) mss_nil)
    (mss_cons (ms_set (i := 3) sc_history.nd rfl (by first | exact .inl rfl | exact .inr rfl) (me_new (mf_lst (ma_cons (mv 1) ma_nil) (fun _ _ _ _ z => by rw [(aCons_len aNil_len) _ _ _ _ z]; decide))))
    (mss_cons (ms_for PassesOwn.never rfl (mi_range rfl m_range (mv 2)) (mg_name (i := 4) sc_history.nd rfl (by first | exact .inl rfl | exact .inr rfl)) (mss_one (ms_expr (me_app (mv 3) (me_call c_turn_at (hr.mono (by decide)) rfl (ma_cons (mv 0) (ma_cons (me_at (mv 3) (mv 4) (fun _ _ => rfl)) ma_nil)) mkFn_np)))))
    (mss_one (ms_ret (mv 3)))))))
theorem sc_ended : FnScope ["web", "stand", "stands", "later", "word"] ["web", "stand"] (defScope s_ended) := ⟨rfl, rfl, rfl, by decide +kernel, rfl, by decide +kernel, by decide +kernel⟩
theorem ok_ended (F : Fun K "ended" "ended" s_ended f fd) (m_len : mg "len" = none) (c_turn_at : Def P w K mg base "turn_at" 4 2 F_turn_at) (c_check_stand : Def P w K mg base "check_stand" 5 2 F_check_stand) : FnOk P w K mg base CX0 6 f fd ["web", "stand"] (spF K F_ended 2) := by
  refine fn_mk F sc_ended fun cdv A outer s H E hr => ?_
  have hu := hu24 hr
  exact (mss_cons (ms_expr (me_call c_check_stand (hr.mono (by decide)) rfl (ma_cons (mv 0) (ma_cons (mv 1) ma_nil)) mkFn_np))
    (mss_cons (ms_set (i := 2) sc_ended.nd rfl (by first | exact .inl rfl | exact .inr rfl) (me_new (mf_lst (ma_cons (mv 1) (ma_cons (me_call c_turn_at (hr.mono (by decide)) rfl (ma_cons (mv 0) (ma_cons (mv 1) ma_nil)) mkFn_np) ma_nil)) (fun _ _ _ _ z => by rw [(aCons_len (aCons_len aNil_len)) _ _ _ _ z]; decide))))
    (mss_cons (ms_set (i := 3) sc_ended.nd rfl (by first | exact .inl rfl | exact .inr rfl) (me_call c_turn_at (hr.mono (by decide)) rfl (ma_cons (mv 0) (ma_cons (me_at (mv 2) me_int (fun _ _ => rfl)) ma_nil)) mkFn_np))
    (mss_cons (ms_while PassesOwn.never (mt_cmp (op_neG hu) og_ne (mv 3) (me_at (mv 2) me_negC (fun _ _ => rfl)) (nomark _)) (mss_cons (ms_expr (me_app (mv 2) (mv 3)))
    (mss_one (ms_set (i := 3) sc_ended.nd rfl (by first | exact .inl rfl | exact .inr rfl) (me_call c_turn_at (hr.mono (by decide)) rfl (ma_cons (mv 0) (ma_cons (mv 3) ma_nil)) mkFn_np)))))
    (mss_cons (ms_set (i := 4) sc_ended.nd rfl (by first | exact .inl rfl | exact .inr rfl) (me_if (mt_cmp (op_eqG hu) og_eq (me_at (mv 2) me_negC (fun _ _ => rfl)) (me_at (mv 2) me_negC (fun _ _ => rfl)) (nomark _)) (me_str [114, 101, 115, 116] rfl) (me_str [112, 97, 105, 114] rfl)))
    (mss_one (ms_ret (me_tup (ma_cons (me_op op_sub og_I (me_len rfl m_len (mq_of (mv 2))) me_int) (ma_cons (mv 4) (ma_cons (mv 2) ma_nil)))))))))))
theorem sc_is_rest : FnScope ["web", "stand"] ["web", "stand"] (defScope s_is_rest) := ⟨rfl, rfl, rfl, by decide +kernel, rfl, by decide +kernel, by decide +kernel⟩
theorem ok_is_rest (F : Fun K "is_rest" "is_rest" s_is_rest f fd) (c_turn_at : Def P w K mg base "turn_at" 4 2 F_turn_at) (c_check_stand : Def P w K mg base "check_stand" 5 2 F_check_stand) : FnOk P w K mg base CX0 6 f fd ["web", "stand"] (spF K F_is_rest 2) := by
  refine fn_mk F sc_is_rest fun cdv A outer s H E hr => ?_
  have hu := hu24 hr
  exact (mss_cons (ms_expr (me_call c_check_stand (hr.mono (by decide)) rfl (ma_cons (mv 0) (ma_cons (mv 1) ma_nil)) mkFn_np))
    (mss_one (ms_ret (me_cmp (op_eqG hu) og_eq (me_call c_turn_at (hr.mono (by decide)) rfl (ma_cons (mv 0) (ma_cons (mv 1) ma_nil)) mkFn_np) (mv 1) (nomark _)))))
theorem sc_end_of : FnScope ["web", "stand"] ["web", "stand"] (defScope s_end_of) := ⟨rfl, rfl, rfl, by decide +kernel, rfl, by decide +kernel, by decide +kernel⟩
theorem ok_end_of (F : Fun K "end_of" "end_of" s_end_of f fd) (c_ended : Def P w K mg base "ended" 6 2 F_ended) : FnOk P w K mg base CX0 7 f fd ["web", "stand"] (spF K F_end_of 2) := by
  refine fn_mk F sc_end_of fun cdv A outer s H E hr => ?_
  have hu := hu24 hr
  exact (mss_one (ms_ret (me_at (me_at (me_call c_ended (hr.mono (by decide)) rfl (ma_cons (mv 0) (ma_cons (mv 1) ma_nil)) mkFn_np) me_int (fun _ _ => rfl)) me_negC (fun _ _ => rfl))))
theorem sc_stand_of_all : FnScope ["web", "opinion"] ["web", "opinion"] (defScope s_stand_of_all) := ⟨rfl, rfl, rfl, by decide +kernel, rfl, by decide +kernel, by decide +kernel⟩
theorem ok_stand_of_all (F : Fun K "stand_of_all" "stand_of_all" s_stand_of_all f fd) (m_tuple : mg "tuple" = none) (c_stays_of : Def P w K mg base "stays_of" 1 1 F_stays_of) : FnOk P w K mg base CX0 2 f fd ["web", "opinion"] (spF K F_stand_of_all 2) := by
  refine fn_mk F sc_stand_of_all fun cdv A outer s H E hr => ?_
  have hu := hu24 hr
  exact (mss_one (ms_ret (me_tupL rfl m_tuple (mq_new (mf_comp (own := ["stay"]) (capn := ["opinion"]) (caps := [1]) rfl (CScope.mk' rfl (by decide +kernel) (by decide +kernel) (by repeat' (first | exact FreeIn.nil | refine FreeIn.cons (by first | exact (fun _ => .inl rfl) | exact (fun _ => .inr rfl) | (intro z; cases z; done)) ?_)) (CapIn.cons rfl rfl CapIn.nil)) (mi_seq (me_call c_stays_of (hr.mono (by decide)) rfl (ma_cons (mv 0) ma_nil) mkFn_np))
      (fun cl C s H ex => ⟨(mg_name (i := 0) (show ((["stay"] : List Str) ++ (["opinion"] : List Str)).Nodup by decide +kernel) rfl (by first | exact .inl rfl | exact .inr rfl)), mts_nil, (me_if (mt_cmp op_isN og_isN (mv 0) me_non (nomark _)) (mv 1) (mv 0))⟩))))))
theorem sc_least_rest : FnScope ["web"] ["web"] (defScope s_least_rest) := ⟨rfl, rfl, rfl, by decide +kernel, rfl, by decide +kernel, by decide +kernel⟩
theorem ok_least_rest (F : Fun K "least_rest" "least_rest" s_least_rest f fd) (c_end_of : Def P w K mg base "end_of" 7 2 F_end_of) (c_stand_of_all : Def P w K mg base "stand_of_all" 2 2 F_stand_of_all) : FnOk P w K mg base CX0 8 f fd ["web"] (spF K F_least_rest 1) := by
  refine fn_mk F sc_least_rest fun cdv A outer s H E hr => ?_
  have hu := hu24 hr
  exact (mss_one (ms_ret (me_call c_end_of (hr.mono (by decide)) rfl (ma_cons (mv 0) (ma_cons (me_call c_stand_of_all (hr.mono (by decide)) rfl (ma_cons (mv 0) (ma_cons me_int ma_nil)) mkFn_np) ma_nil)) mkFn_np)))
theorem sc_greatest_rest : FnScope ["web"] ["web"] (defScope s_greatest_rest) := ⟨rfl, rfl, rfl, by decide +kernel, rfl, by decide +kernel, by decide +kernel⟩
theorem ok_greatest_rest (F : Fun K "greatest_rest" "greatest_rest" s_greatest_rest f fd) (c_end_of : Def P w K mg base "end_of" 7 2 F_end_of) (c_stand_of_all : Def P w K mg base "stand_of_all" 2 2 F_stand_of_all) : FnOk P w K mg base CX0 8 f fd ["web"] (spF K F_greatest_rest 1) := by
  refine fn_mk F sc_greatest_rest fun cdv A outer s H E hr => ?_
  have hu := hu24 hr
  exact (mss_one (ms_ret (me_call c_end_of (hr.mono (by decide)) rfl (ma_cons (mv 0) (ma_cons (me_call c_stand_of_all (hr.mono (by decide)) rfl (ma_cons (mv 0) (ma_cons me_int ma_nil)) mkFn_np) ma_nil)) mkFn_np)))
theorem sc_check_rests : FnScope ["web", "one", "other"] ["web", "one", "other"] (defScope s_check_rests) := ⟨rfl, rfl, rfl, by decide +kernel, rfl, by decide +kernel, by decide +kernel⟩
theorem ok_check_rests (F : Fun K "check_rests" "check_rests" s_check_rests f fd) (c_is_rest : Def P w K mg base "is_rest" 6 2 F_is_rest) (c_check_stand : Def P w K mg base "check_stand" 5 2 F_check_stand) : FnOk P w K mg base CX0 7 f fd ["web", "one", "other"] (spF K F_check_rests 3) := by
  refine fn_mk F sc_check_rests fun cdv A outer s H E hr => ?_
  have hu := hu24 hr
  exact (mss_cons (ms_expr (me_call c_check_stand (hr.mono (by decide)) rfl (ma_cons (mv 0) (ma_cons (mv 1) ma_nil)) mkFn_np))
    (mss_cons (ms_expr (me_call c_check_stand (hr.mono (by decide)) rfl (ma_cons (mv 0) (ma_cons (mv 2) ma_nil)) mkFn_np))
    (mss_one (ms_if (MW.mt (mw_or (mt_not (mt_val (me_call c_is_rest (hr.mono (by decide)) rfl (ma_cons (mv 0) (ma_cons (mv 1) ma_nil)) mkFn_np))) (mw_one (mt_not (mt_val (me_call c_is_rest (hr.mono (by decide)) rfl (ma_cons (mv 0) (ma_cons (mv 2) ma_nil)) mkFn_np))) (.inr rfl)))) (mss_one ms_bad) mss_nil))))
theorem sc_joined : FnScope ["web", "one", "other"] ["web", "one", "other"] (defScope s_joined) := ⟨rfl, rfl, rfl, by decide +kernel, rfl, by decide +kernel, by decide +kernel⟩
theorem ok_joined (F : Fun K "joined" "joined" s_joined f fd) (m_tuple : mg "tuple" = none) (m_zip : mg "zip" = none) (m_max : mg "max" = none) (c_end_of : Def P w K mg base "end_of" 7 2 F_end_of) (c_check_rests : Def P w K mg base "check_rests" 7 3 F_check_rests) : FnOk P w K mg base CX0 8 f fd ["web", "one", "other"] (spF K F_joined 3) := by
  refine fn_mk F sc_joined fun cdv A outer s H E hr => ?_
  have hu := hu24 hr
  exact (mss_cons (ms_expr (me_call c_check_rests (hr.mono (by decide)) rfl (ma_cons (mv 0) (ma_cons (mv 1) (ma_cons (mv 2) ma_nil))) mkFn_np))
    (mss_one (ms_ret (me_call c_end_of (hr.mono (by decide)) rfl (ma_cons (mv 0) (ma_cons (me_tupL rfl m_tuple (mq_new (mf_comp (own := ["low", "high"]) (capn := []) (caps := []) rfl (CScope.mk' rfl (by decide +kernel) (by decide +kernel) (by repeat' (first | exact FreeIn.nil | refine FreeIn.cons (by first | exact (fun _ => .inl rfl) | exact (fun _ => .inr rfl) | (intro z; cases z; done)) ?_)) CapIn.nil) (mi_zip rfl m_zip (mv 1) (mv 2))
      (fun cl C s H ex => ⟨(mg_tup rfl (mgs_cons (mg_name (i := 0) (show ((["low", "high"] : List Str) ++ ([] : List Str)).Nodup by decide +kernel) rfl (by first | exact .inl rfl | exact .inr rfl)) (mgs_cons (mg_name (i := 1) (show ((["low", "high"] : List Str) ++ ([] : List Str)).Nodup by decide +kernel) rfl (by first | exact .inl rfl | exact .inr rfl)) mgs_nil))), mts_nil, (me_max rfl rfl m_max (mv 0) (mv 1))⟩)))) ma_nil)) mkFn_np))))
theorem sc_met : FnScope ["web", "one", "other"] ["web", "one", "other"] (defScope s_met) := ⟨rfl, rfl, rfl, by decide +kernel, rfl, by decide +kernel, by decide +kernel⟩
theorem ok_met (F : Fun K "met" "met" s_met f fd) (m_tuple : mg "tuple" = none) (m_zip : mg "zip" = none) (m_min : mg "min" = none) (c_end_of : Def P w K mg base "end_of" 7 2 F_end_of) (c_check_rests : Def P w K mg base "check_rests" 7 3 F_check_rests) : FnOk P w K mg base CX0 8 f fd ["web", "one", "other"] (spF K F_met 3) := by
  refine fn_mk F sc_met fun cdv A outer s H E hr => ?_
  have hu := hu24 hr
  exact (mss_cons (ms_expr (me_call c_check_rests (hr.mono (by decide)) rfl (ma_cons (mv 0) (ma_cons (mv 1) (ma_cons (mv 2) ma_nil))) mkFn_np))
    (mss_one (ms_ret (me_call c_end_of (hr.mono (by decide)) rfl (ma_cons (mv 0) (ma_cons (me_tupL rfl m_tuple (mq_new (mf_comp (own := ["low", "high"]) (capn := []) (caps := []) rfl (CScope.mk' rfl (by decide +kernel) (by decide +kernel) (by repeat' (first | exact FreeIn.nil | refine FreeIn.cons (by first | exact (fun _ => .inl rfl) | exact (fun _ => .inr rfl) | (intro z; cases z; done)) ?_)) CapIn.nil) (mi_zip rfl m_zip (mv 1) (mv 2))
      (fun cl C s H ex => ⟨(mg_tup rfl (mgs_cons (mg_name (i := 0) (show ((["low", "high"] : List Str) ++ ([] : List Str)).Nodup by decide +kernel) rfl (by first | exact .inl rfl | exact .inr rfl)) (mgs_cons (mg_name (i := 1) (show ((["low", "high"] : List Str) ++ ([] : List Str)).Nodup by decide +kernel) rfl (by first | exact .inl rfl | exact .inr rfl)) mgs_nil))), mts_nil, (me_min rfl rfl m_min (mv 0) (mv 1))⟩)))) ma_nil)) mkFn_np))))
theorem sc__law_cell : FnScope ["_law_script", "_law_k"] ["_law_script", "_law_k"] (defScope s__law_cell) := ⟨rfl, rfl, rfl, by decide +kernel, rfl, by decide +kernel, by decide +kernel⟩
theorem ok__law_cell (F : Fun K "_law_cell" "_law_cell" s__law_cell f fd) (m_len : mg "len" = none) : FnOk P w K mg base CX0 1 f fd ["_law_script", "_law_k"] (spF K F_l_cell 2) := by
  refine fn_mk F sc__law_cell fun cdv A outer s H E hr => ?_
  have hu := hu24 hr
  exact (mss_cons (ms_if (mt_cmp op_lt og_B (mv 1) (me_len rfl m_len (mq_of (mv 0))) (nomark _)) (mss_one (ms_ret (me_at (mv 0) (mv 1) (fun _ _ => rfl)))) mss_nil)
    (mss_one (ms_ret (me_op op_add2 og_add (me_op op_mul og_mul (me_op op_mul og_mul me_int (mv 1)) (mv 1)) (me_op op_mul og_mul me_int (mv 1))))))
theorem sc__law_row : FnScope ["_law_cell_here", "_law_way", "_law_many", "_law_base", "_law_found", "_law_number", "_law_k"] ["_law_cell_here", "_law_way", "_law_many", "_law_base"] (defScope s__law_row) := ⟨rfl, rfl, rfl, by decide +kernel, rfl, by decide +kernel, by decide +kernel⟩
theorem ok__law_row (F : Fun K "_law_row" "_law_row" s__law_row f fd) (m_range : mg "range" = none) : FnOk P w K mg base CX0 1 f fd ["_law_cell_here", "_law_way", "_law_many", "_law_base"] (spF K F_l_row 4) := by
  refine fn_mk F sc__law_row fun cdv A outer s H E hr => ?_
  have hu := hu24 hr
  exact (mss_cons (ms_set (i := 4) sc__law_row.nd rfl (by first | exact .inl rfl | exact .inr rfl) (me_new (mf_lst ma_nil (fun _ _ _ _ z => by rw [aNil_len _ _ _ _ z]; decide))))
    (mss_cons (ms_set (i := 5) sc__law_row.nd rfl (by first | exact .inl rfl | exact .inr rfl) (mv 0))
    (mss_cons (ms_if (mt_cmp (op_eqG hu) og_eq (me_op op_mod og_mod (mv 1) me_int) me_int (nomark _)) (mss_one (ms_set (i := 5) sc__law_row.nd rfl (by first | exact .inl rfl | exact .inr rfl) (me_op op_mod og_mod (me_op op_mul og_mul (me_op op_mod og_mod (mv 0) me_int) me_int) me_int))) mss_nil)
    (mss_cons (ms_for PassesOwn.never rfl (mi_range rfl m_range (mv 2)) (mg_name (i := 6) sc__law_row.nd rfl (by first | exact .inl rfl | exact .inr rfl)) (mss_one (ms_if (mt_cmp (op_eqG hu) og_eq (me_op op_mod og_mod (mv 1) me_int) me_int (nomark _)) (mss_cons (ms_set (i := 5) sc__law_row.nd rfl (by first | exact .inl rfl | exact .inr rfl) (me_op op_mod og_mod (me_op op_add2 og_add (me_op op_add2 og_add (me_op op_add2 og_add (me_op op_mul og_mul (mv 5) (mv 5)) (me_op op_mul og_mul me_int (mv 5))) (me_op op_mul og_mul me_int (mv 6))) me_int) me_int))
    (mss_one (ms_expr (me_app (mv 4) (me_op op_mod og_mod (me_op op_fdivB og_div (mv 5) me_int) (mv 3)))))) (mss_cons (ms_expr (me_app (mv 4) (me_op op_mod og_mod (mv 5) (mv 3))))
    (mss_one (ms_set (i := 5) sc__law_row.nd rfl (by first | exact .inl rfl | exact .inr rfl) (me_op op_fdivB og_div (mv 5) (mv 3))))))))
    (mss_one (ms_ret (mv 4)))))))
theorem sc__law_model : FnScope ["_law_script", "_law_most", "_law_way", "_law_many", "_law_tied", "_law_told", "_law_one", "_law_other", "_law_heavy", "_law_levels", "_law_steps", "_law_holders"] ["_law_script", "_law_most"] (defScope s__law_model) := ⟨rfl, rfl, rfl, by decide +kernel, rfl, by decide +kernel, by decide +kernel⟩
theorem ok__law_model (F : Fun K "_law_model" "_law_model" s__law_model f fd) (m_range : mg "range" = none) (m_sum : mg "sum" = none) (m_max : mg "max" = none) (c__law_row : Def P w K mg base "_law_row" 1 4 F_l_row) (c__law_cell : Def P w K mg base "_law_cell" 1 2 F_l_cell) : FnOk P w K mg base CX0 2 f fd ["_law_script", "_law_most"] (spF K F_l_model 2) := by
  refine fn_mk F sc__law_model fun cdv A outer s H E hr => ?_
  have hu := hu24 hr
  exact (mss_cons (ms_set (i := 2) sc__law_model.nd rfl (by first | exact .inl rfl | exact .inr rfl) (me_call c__law_cell (hr.mono (by decide)) rfl (ma_cons (mv 0) (ma_cons me_int ma_nil)) mkFn_np))
    (mss_cons (ms_set (i := 3) sc__law_model.nd rfl (by first | exact .inl rfl | exact .inr rfl) (me_op op_add2 og_add me_int (me_op op_mod og_mod (me_op op_fdivB og_div (mv 2) me_int) (mv 1))))
    (mss_cons (ms_setC (i := 4) sc__law_model.nd rfl (by first | exact .inl rfl | exact .inr rfl) (own := ["_law_one"]) (capn := ["_law_many"]) (caps := [3]) rfl (CScope.mk' rfl (by decide +kernel) (by decide +kernel) (by repeat' (first | exact FreeIn.nil | refine FreeIn.cons (by first | exact (fun _ => .inl rfl) | exact (fun _ => .inr rfl) | (intro z; cases z; done)) ?_)) (CapIn.cons rfl rfl CapIn.nil)) (mi_range rfl m_range (mv 3))
      (fun cl C s H ex => ⟨(mg_name (i := 0) (show ((["_law_one"] : List Str) ++ (["_law_many"] : List Str)).Nodup by decide +kernel) rfl (by first | exact .inl rfl | exact .inr rfl)), mts_nil, (me_new (mf_rep (mf_lst (ma_cons me_int ma_nil) (fun _ _ _ _ z => by rw [(aCons_len aNil_len) _ _ _ _ z]; decide)) (mv 1)))⟩))
    (mss_cons (ms_set (i := 5) sc__law_model.nd rfl (by first | exact .inl rfl | exact .inr rfl) (me_call c__law_row (hr.mono (by decide)) rfl (ma_cons (me_call c__law_cell (hr.mono (by decide)) rfl (ma_cons (mv 0) (ma_cons me_int ma_nil)) mkFn_np) (ma_cons (mv 2) (ma_cons (me_op op_mul og_mul (mv 3) (mv 3)) (ma_cons me_int ma_nil)))) mkFn_np))
    (mss_cons (ms_for PassesOwn.never rfl (mi_range rfl m_range (mv 3)) (mg_name (i := 6) sc__law_model.nd rfl (by first | exact .inl rfl | exact .inr rfl)) (mss_one (ms_for PassesOwn.never rfl (mi_range rfl m_range (mv 6)) (mg_name (i := 7) sc__law_model.nd rfl (by first | exact .inl rfl | exact .inr rfl)) (mss_cons (ms_set (i := 8) sc__law_model.nd rfl (by first | exact .inl rfl | exact .inr rfl) (me_max rfl rfl m_max me_int (me_op op_sub og_I (me_at (mv 5) (me_op op_add2 og_add (me_op op_mul og_mul (mv 6) (mv 3)) (mv 7)) (fun _ _ => rfl)) me_int)))
    (mss_cons (ms_if (mt_cmp (op_eqG hu) og_eq (me_op op_mod og_mod (me_op op_fdivB og_div (mv 2) me_int) me_int) me_int (nomark _)) (mss_one (ms_set (i := 8) sc__law_model.nd rfl (by first | exact .inl rfl | exact .inr rfl) (me_ix (mf_lst (ma_cons me_int (ma_cons me_int (ma_cons me_int (ma_cons me_int (ma_cons me_int (ma_cons me_int (ma_cons me_int ma_nil))))))) (fun _ _ _ _ z => by rw [(aCons_len (aCons_len (aCons_len (aCons_len (aCons_len (aCons_len (aCons_len aNil_len))))))) _ _ _ _ z]; decide)) (me_op op_mod og_mod (me_at (mv 5) (me_op op_add2 og_add (me_op op_mul og_mul (mv 6) (mv 3)) (mv 7)) (fun _ _ => rfl)) me_int) (fun _ _ => rfl)))) mss_nil)
    (mss_cons (ms_put (mv 8) (me_at (mv 4) (mv 6) (fun _ _ => rfl)) (mv 7))
    (mss_one (ms_put (mv 8) (me_at (mv 4) (mv 7) (fun _ _ => rfl)) (mv 6)))))))))
    (mss_cons (ms_setC (i := 9) sc__law_model.nd rfl (by first | exact .inl rfl | exact .inr rfl) (own := ["_law_row_here"]) (capn := []) (caps := []) rfl (CScope.mk' rfl (by decide +kernel) (by decide +kernel) (by repeat' (first | exact FreeIn.nil | refine FreeIn.cons (by first | exact (fun _ => .inl rfl) | exact (fun _ => .inr rfl) | (intro z; cases z; done)) ?_)) CapIn.nil) (mi_seq (mv 4))
      (fun cl C s H ex => ⟨(mg_name (i := 0) (show ((["_law_row_here"] : List Str) ++ ([] : List Str)).Nodup by decide +kernel) rfl (by first | exact .inl rfl | exact .inr rfl)), mts_nil, (me_sum rfl rfl m_sum (mq_of (mv 0)))⟩))
    (mss_cons (ms_if (mt_cmp (op_eqG hu) og_eq (me_op op_mod og_mod (me_op op_fdivB og_div (mv 2) me_int) me_int) me_int (nomark _)) (mss_cons (ms_set (i := 10) sc__law_model.nd rfl (by first | exact .inl rfl | exact .inr rfl) (me_call c__law_row (hr.mono (by decide)) rfl (ma_cons (me_call c__law_cell (hr.mono (by decide)) rfl (ma_cons (mv 0) (ma_cons me_int ma_nil)) mkFn_np) (ma_cons (mv 2) (ma_cons (mv 3) (ma_cons me_int ma_nil)))) mkFn_np))
    (mss_one (ms_for PassesOwn.never rfl (mi_range rfl m_range (mv 3)) (mg_name (i := 6) sc__law_model.nd rfl (by first | exact .inl rfl | exact .inr rfl)) (mss_one (ms_put (me_ix (mf_lst (ma_cons (me_op op_sub og_I (me_at (mv 10) (mv 6) (fun _ _ => rfl)) me_int) (ma_cons (me_op op_sub og_I (me_op op_add2 og_add (me_at (mv 9) (mv 6) (fun _ _ => rfl)) (me_op op_mod og_mod (me_at (mv 10) (mv 6) (fun _ _ => rfl)) me_int)) me_int) ma_nil)) (fun _ _ _ _ z => by rw [(aCons_len (aCons_len aNil_len)) _ _ _ _ z]; decide)) (me_op op_mod og_mod (me_op op_fdivB og_div (mv 2) me_int) me_int) (fun _ _ => rfl)) (mv 9) (mv 6)))))) mss_nil)
    (mss_cons (ms_set (i := 11) sc__law_model.nd rfl (by first | exact .inl rfl | exact .inr rfl) (me_new (mf_rep (mf_lst (ma_cons me_non ma_nil) (fun _ _ _ _ z => by rw [(aCons_len aNil_len) _ _ _ _ z]; decide)) (mv 3))))
    (mss_cons (ms_if (mt_cmp (op_eqG hu) og_eq (me_op op_mod og_mod (me_op op_fdivB og_div (mv 2) me_int) me_int) me_int (nomark _)) (mss_cons (ms_set (i := 5) sc__law_model.nd rfl (by first | exact .inl rfl | exact .inr rfl) (me_call c__law_row (hr.mono (by decide)) rfl (ma_cons (me_call c__law_cell (hr.mono (by decide)) rfl (ma_cons (mv 0) (ma_cons me_int ma_nil)) mkFn_np) (ma_cons (mv 2) (ma_cons (mv 3) (ma_cons me_int ma_nil)))) mkFn_np))
    (mss_one (ms_setC (i := 11) sc__law_model.nd rfl (by first | exact .inl rfl | exact .inr rfl) (own := ["_law_number"]) (capn := []) (caps := []) rfl (CScope.mk' rfl (by decide +kernel) (by decide +kernel) (by repeat' (first | exact FreeIn.nil | refine FreeIn.cons (by first | exact (fun _ => .inl rfl) | exact (fun _ => .inr rfl) | (intro z; cases z; done)) ?_)) CapIn.nil) (mi_seq (mv 5))
      (fun cl C s H ex => ⟨(mg_name (i := 0) (show ((["_law_number"] : List Str) ++ ([] : List Str)).Nodup by decide +kernel) rfl (by first | exact .inl rfl | exact .inr rfl)), mts_nil, (me_ix (mf_lst (ma_cons me_int (ma_cons me_int (ma_cons me_non (ma_cons me_non (ma_cons me_non (ma_cons me_non (ma_cons me_non ma_nil))))))) (fun _ _ _ _ z => by rw [(aCons_len (aCons_len (aCons_len (aCons_len (aCons_len (aCons_len (aCons_len aNil_len))))))) _ _ _ _ z]; decide)) (mv 0) (fun _ _ => rfl))⟩)))) mss_nil)
    (mss_one (ms_ret (me_tup (ma_cons (mv 4) (ma_cons (mv 9) (ma_cons (mv 11) ma_nil)))))))))))))))
theorem sc__law_lines : FnScope ["_law_model_here", "_law_found", "_law_one", "_law_other"] ["_law_model_here"] (defScope s__law_lines) := ⟨rfl, rfl, rfl, by decide +kernel, rfl, by decide +kernel, by decide +kernel⟩
theorem ok__law_lines (F : Fun K "_law_lines" "_law_lines" s__law_lines f fd) (m_range : mg "range" = none) (m_len : mg "len" = none) : FnOk P w K mg base CX0 1 f fd ["_law_model_here"] (spF K F_l_lines 1) := by
  refine fn_mk F sc__law_lines fun cdv A outer s H E hr => ?_
  have hu := hu24 hr
  exact (mss_cons (ms_set (i := 1) sc__law_lines.nd rfl (by first | exact .inl rfl | exact .inr rfl) (me_new (mf_lst ma_nil (fun _ _ _ _ z => by rw [aNil_len _ _ _ _ z]; decide))))
    (mss_cons (ms_for PassesOwn.never rfl (mi_range rfl m_range (me_len rfl m_len (mq_of (me_at (mv 0) me_int (fun _ _ => rfl))))) (mg_name (i := 2) sc__law_lines.nd rfl (by first | exact .inl rfl | exact .inr rfl)) (mss_one (ms_for PassesOwn.never rfl (mi_range rfl m_range (mv 2)) (mg_name (i := 3) sc__law_lines.nd rfl (by first | exact .inl rfl | exact .inr rfl)) (mss_one (ms_if (mt_cmp op_gt og_B (me_at (me_at (me_at (mv 0) me_int (fun _ _ => rfl)) (mv 2) (fun _ _ => rfl)) (mv 3) (fun _ _ => rfl)) me_int (nomark _)) (mss_one (ms_expr (me_app (mv 1) (me_tup (ma_cons (mv 3) (ma_cons (mv 2) (ma_cons (me_at (me_at (me_at (mv 0) me_int (fun _ _ => rfl)) (mv 2) (fun _ _ => rfl)) (mv 3) (fun _ _ => rfl)) ma_nil))))))) mss_nil)))))
    (mss_one (ms_ret (mv 1)))))
theorem sc__law_turn : FnScope ["_law_model_here", "_law_stand", "_law_tied", "_law_levels", "_law_holders", "_law_found", "_law_one", "_law_force", "_law_held"] ["_law_model_here", "_law_stand"] (defScope s__law_turn) := ⟨rfl, rfl, rfl, by decide +kernel, rfl, by decide +kernel, by decide +kernel⟩
theorem ok__law_turn (F : Fun K "_law_turn" "_law_turn" s__law_turn f fd) (m_tuple : mg "tuple" = none) (m_range : mg "range" = none) (m_len : mg "len" = none) (m_sum : mg "sum" = none) : FnOk P w K mg base CX0 1 f fd ["_law_model_here", "_law_stand"] (spF K F_l_turn 2) := by
  refine fn_mk F sc__law_turn fun cdv A outer s H E hr => ?_
  have hu := hu24 hr
  exact (mss_cons (ms_asg (mv 0) (mg_tup rfl (mgs_cons (mg_name (i := 2) sc__law_turn.nd rfl (by first | exact .inl rfl | exact .inr rfl)) (mgs_cons (mg_name (i := 3) sc__law_turn.nd rfl (by first | exact .inl rfl | exact .inr rfl)) (mgs_cons (mg_name (i := 4) sc__law_turn.nd rfl (by first | exact .inl rfl | exact .inr rfl)) mgs_nil)))))
    (mss_cons (ms_set (i := 5) sc__law_turn.nd rfl (by first | exact .inl rfl | exact .inr rfl) (me_new (mf_lst ma_nil (fun _ _ _ _ z => by rw [aNil_len _ _ _ _ z]; decide))))
    (mss_cons (ms_for PassesOwn.never rfl (mi_range rfl m_range (me_len rfl m_len (mq_of (mv 3)))) (mg_name (i := 6) sc__law_turn.nd rfl (by first | exact .inl rfl | exact .inr rfl)) (mss_cons (ms_set (i := 7) sc__law_turn.nd rfl (by first | exact .inl rfl | exact .inr rfl) (me_op op_mul og_mul me_int (me_sum rfl rfl m_sum (mq_new (mf_comp (own := ["_law_other"]) (capn := ["_law_stand", "_law_tied", "_law_one"]) (caps := [1, 2, 6]) rfl (CScope.mk' rfl (by decide +kernel) (by decide +kernel) (by repeat' (first | exact FreeIn.nil | refine FreeIn.cons (by first | exact (fun _ => .inl rfl) | exact (fun _ => .inr rfl) | (intro z; cases z; done)) ?_)) (CapIn.cons rfl rfl (CapIn.cons rfl rfl (CapIn.cons rfl rfl CapIn.nil)))) (mi_range rfl m_range (me_len rfl m_len (mq_of (mv 3))))
      (fun cl C s H ex => ⟨(mg_name (i := 0) (show ((["_law_other"] : List Str) ++ (["_law_stand", "_law_tied", "_law_one"] : List Str)).Nodup by decide +kernel) rfl (by first | exact .inl rfl | exact .inr rfl)), mts_nil, (me_op op_mul og_mul (me_at (me_at (mv 2) (mv 3) (fun _ _ => rfl)) (mv 0) (fun _ _ => rfl)) (me_at (mv 1) (mv 0) (fun _ _ => rfl)))⟩))))))
    (mss_cons (ms_set (i := 8) sc__law_turn.nd rfl (by first | exact .inl rfl | exact .inr rfl) (me_at (mv 1) (mv 6) (fun _ _ => rfl)))
    (mss_cons (ms_if (mt_cmp op_gt og_B (mv 7) (me_at (mv 3) (mv 6) (fun _ _ => rfl)) (nomark _)) (mss_one (ms_set (i := 8) sc__law_turn.nd rfl (by first | exact .inl rfl | exact .inr rfl) me_int)) mss_nil)
    (mss_cons (ms_if (mt_cmp op_lt og_B (mv 7) (me_at (mv 3) (mv 6) (fun _ _ => rfl)) (nomark _)) (mss_one (ms_set (i := 8) sc__law_turn.nd rfl (by first | exact .inl rfl | exact .inr rfl) me_int)) mss_nil)
    (mss_cons (ms_if (mt_cmp op_notN og_isNotN (me_at (mv 4) (mv 6) (fun _ _ => rfl)) me_non (nomark _)) (mss_one (ms_set (i := 8) sc__law_turn.nd rfl (by first | exact .inl rfl | exact .inr rfl) (me_at (mv 4) (mv 6) (fun _ _ => rfl)))) mss_nil)
    (mss_one (ms_expr (me_app (mv 5) (mv 8))))))))))
    (mss_one (ms_ret (me_tupL rfl m_tuple (mq_of (mv 5))))))))
theorem sc__law_fitting : FnScope ["_law_model_here", "_law_some", "_law_found", "_law_one"] ["_law_model_here", "_law_some"] (defScope s__law_fitting) := ⟨rfl, rfl, rfl, by decide +kernel, rfl, by decide +kernel, by decide +kernel⟩
theorem ok__law_fitting (F : Fun K "_law_fitting" "_law_fitting" s__law_fitting f fd) (m_tuple : mg "tuple" = none) (m_range : mg "range" = none) (m_len : mg "len" = none) : FnOk P w K mg base CX0 1 f fd ["_law_model_here", "_law_some"] (spF K F_l_fitting 2) := by
  refine fn_mk F sc__law_fitting fun cdv A outer s H E hr => ?_
  have hu := hu24 hr
  exact (mss_cons (ms_set (i := 2) sc__law_fitting.nd rfl (by first | exact .inl rfl | exact .inr rfl) (me_new (mf_lst ma_nil (fun _ _ _ _ z => by rw [aNil_len _ _ _ _ z]; decide))))
    (mss_cons (ms_for PassesOwn.never rfl (mi_range rfl m_range (me_len rfl m_len (mq_of (mv 1)))) (mg_name (i := 3) sc__law_fitting.nd rfl (by first | exact .inl rfl | exact .inr rfl)) (mss_cons (ms_expr (me_app (mv 2) (me_at (mv 1) (mv 3) (fun _ _ => rfl))))
    (mss_one (ms_if (mt_cmp op_notN og_isNotN (me_at (me_at (mv 0) me_int (fun _ _ => rfl)) (mv 3) (fun _ _ => rfl)) me_non (nomark _)) (mss_one (ms_put (me_at (me_at (mv 0) me_int (fun _ _ => rfl)) (mv 3) (fun _ _ => rfl)) (mv 2) (mv 3))) mss_nil))))
    (mss_one (ms_ret (me_tupL rfl m_tuple (mq_of (mv 2)))))))
theorem sc__law_made : FnScope ["_law_model_here"] ["_law_model_here"] (defScope s__law_made) := ⟨rfl, rfl, rfl, by decide +kernel, rfl, by decide +kernel, by decide +kernel⟩
theorem ok__law_made (F : Fun K "_law_made" "_law_made" s__law_made f fd) (m_list : mg "list" = none) (m_len : mg "len" = none) (c_web_of : Def P w K mg base "web_of" 5 4 F_web_of) (c__law_lines : Def P w K mg base "_law_lines" 1 1 F_l_lines) : FnOk P w K mg base CX0 6 f fd ["_law_model_here"] (spF K F_l_made 1) := by
  refine fn_mk F sc__law_made fun cdv A outer s H E hr => ?_
  have hu := hu24 hr
  exact (mss_one (ms_ret (me_call c_web_of (hr.mono (by decide)) rfl (ma_cons (me_len rfl m_len (mq_of (me_at (mv 0) me_int (fun _ _ => rfl)))) (ma_cons (me_call c__law_lines (hr.mono (by decide)) rfl (ma_cons (mv 0) ma_nil) mkFn_np) (ma_cons (me_new (mf_list rfl m_list (mq_of (me_at (mv 0) me_int (fun _ _ => rfl))))) (ma_cons (me_new (mf_list rfl m_list (mq_of (me_at (mv 0) me_int (fun _ _ => rfl))))) ma_nil)))) mkFn_np)))
theorem sc__law_below : FnScope ["_law_one", "_law_other"] ["_law_one", "_law_other"] (defScope s__law_below) := ⟨rfl, rfl, rfl, by decide +kernel, rfl, by decide +kernel, by decide +kernel⟩
theorem ok__law_below (F : Fun K "_law_below" "_law_below" s__law_below f fd) (m_range : mg "range" = none) (m_len : mg "len" = none) : FnOk P w K mg base CX0 1 f fd ["_law_one", "_law_other"] (spF K F_l_below 2) := by
  refine fn_mk F sc__law_below fun cdv A outer s H E hr => ?_
  have hu := hu24 hr
  exact (mss_one (ms_ret (me_cmp (op_eqG hu) og_eq (me_new (mf_comp (own := ["_law_k"]) (capn := ["_law_one", "_law_other"]) (caps := [0, 1]) rfl (CScope.mk' rfl (by decide +kernel) (by decide +kernel) (by repeat' (first | exact FreeIn.nil | refine FreeIn.cons (by first | exact (fun _ => .inl rfl) | exact (fun _ => .inr rfl) | (intro z; cases z; done)) ?_)) (CapIn.cons rfl rfl (CapIn.cons rfl rfl CapIn.nil))) (mi_range rfl m_range (me_len rfl m_len (mq_of (mv 0))))
      (fun cl C s H ex => ⟨(mg_name (i := 0) (show ((["_law_k"] : List Str) ++ (["_law_one", "_law_other"] : List Str)).Nodup by decide +kernel) rfl (by first | exact .inl rfl | exact .inr rfl)), (mts_one (mt_cmp op_gt og_B (me_at (mv 1) (mv 0) (fun _ _ => rfl)) (me_at (mv 2) (mv 0) (fun _ _ => rfl)) (nomark _))), (mv 0)⟩))) (me_new (mf_lst ma_nil (fun _ _ _ _ z => by rw [aNil_len _ _ _ _ z]; decide))) (nomark _))))
theorem sc__law_far : FnScope ["_law_model_here", "_law_held", "_law_stand", "_law_turns"] ["_law_model_here", "_law_held"] (defScope s__law_far) := ⟨rfl, rfl, rfl, by decide +kernel, rfl, by decide +kernel, by decide +kernel⟩
theorem ok__law_far (F : Fun K "_law_far" "_law_far" s__law_far f fd) (m_len : mg "len" = none) (c__law_turn : Def P w K mg base "_law_turn" 1 2 F_l_turn) (c__law_fitting : Def P w K mg base "_law_fitting" 1 2 F_l_fitting) : FnOk P w K mg base CX0 2 f fd ["_law_model_here", "_law_held"] (spF K F_l_far 2) := by
  refine fn_mk F sc__law_far fun cdv A outer s H E hr => ?_
  have hu := hu24 hr
  exact (mss_cons (ms_set (i := 2) sc__law_far.nd rfl (by first | exact .inl rfl | exact .inr rfl) (me_call c__law_fitting (hr.mono (by decide)) rfl (ma_cons (mv 0) (ma_cons (me_new (mf_rep (mf_lst (ma_cons (mv 1) ma_nil) (fun _ _ _ _ z => by rw [(aCons_len aNil_len) _ _ _ _ z]; decide)) (me_len rfl m_len (mq_of (me_at (mv 0) me_int (fun _ _ => rfl)))))) ma_nil)) mkFn_np))
    (mss_cons (ms_set (i := 3) sc__law_far.nd rfl (by first | exact .inl rfl | exact .inr rfl) me_int)
    (mss_cons (ms_while PassesOwn.never (mt_cmp (op_neG hu) og_ne (me_call c__law_turn (hr.mono (by decide)) rfl (ma_cons (mv 0) (ma_cons (mv 2) ma_nil)) mkFn_np) (mv 2) (nomark _)) (mss_cons (ms_set (i := 2) sc__law_far.nd rfl (by first | exact .inl rfl | exact .inr rfl) (me_call c__law_turn (hr.mono (by decide)) rfl (ma_cons (mv 0) (ma_cons (mv 2) ma_nil)) mkFn_np))
    (mss_one (ms_set (i := 3) sc__law_far.nd rfl (by first | exact .inl rfl | exact .inr rfl) (me_op op_add2 og_add (mv 3) me_int)))))
    (mss_one (ms_ret (mv 3))))))
theorem sc__law_calm : FnScope ["_law_model_here", "_law_stand", "_law_k", "_law_later"] ["_law_model_here", "_law_stand"] (defScope s__law_calm) := ⟨rfl, rfl, rfl, by decide +kernel, rfl, by decide +kernel, by decide +kernel⟩
theorem ok__law_calm (F : Fun K "_law_calm" "_law_calm" s__law_calm f fd) (m_range : mg "range" = none) (c__law_turn : Def P w K mg base "_law_turn" 1 2 F_l_turn) : FnOk P w K mg base CX0 2 f fd ["_law_model_here", "_law_stand"] (spF K F_l_calm 2) := by
  refine fn_mk F sc__law_calm fun cdv A outer s H E hr => ?_
  have hu := hu24 hr
  exact (mss_cons (ms_for PassesOwn.never rfl (mi_range rfl m_range me_int) (mg_name (i := 2) sc__law_calm.nd rfl (by first | exact .inl rfl | exact .inr rfl)) (mss_cons (ms_set (i := 3) sc__law_calm.nd rfl (by first | exact .inl rfl | exact .inr rfl) (me_call c__law_turn (hr.mono (by decide)) rfl (ma_cons (mv 0) (ma_cons (mv 1) ma_nil)) mkFn_np))
    (mss_cons (ms_if (mt_cmp (op_eqG hu) og_eq (mv 3) (mv 1) (nomark _)) (mss_one (ms_ret (mv 1))) mss_nil)
    (mss_one (ms_set (i := 1) sc__law_calm.nd rfl (by first | exact .inl rfl | exact .inr rfl) (mv 3))))))
    (mss_one (ms_ret me_non)))
theorem sc__law_bounds_right : FnScope ["_law_model_here", "_law_web", "_law_one", "_law_other", "_law_up", "_law_down"] ["_law_model_here", "_law_web", "_law_one", "_law_other"] (defScope s__law_bounds_right) := ⟨rfl, rfl, rfl, by decide +kernel, rfl, by decide +kernel, by decide +kernel⟩
theorem ok__law_bounds_right (F : Fun K "_law_bounds_right" "_law_bounds_right" s__law_bounds_right f fd) (m_tuple : mg "tuple" = none) (m_range : mg "range" = none) (m_len : mg "len" = none) (m_min : mg "min" = none) (m_max : mg "max" = none) (c_met : Def P w K mg base "met" 8 3 F_met) (c_joined : Def P w K mg base "joined" 8 3 F_joined) (c__law_calm : Def P w K mg base "_law_calm" 2 2 F_l_calm) : FnOk P w K mg base CX0 9 f fd ["_law_model_here", "_law_web", "_law_one", "_law_other"] (spF K F_l_bounds_right 4) := by
  refine fn_mk F sc__law_bounds_right fun cdv A outer s H E hr => ?_
  have hu := hu24 hr
  exact (mss_cons (ms_if (MW.mt (mw_or (mt_cmp op_isN og_isN (mv 2) me_non (nomark _)) (mw_one (mt_cmp op_isN og_isN (mv 3) me_non (nomark _)) (.inr rfl)))) (mss_one (ms_ret me_bl)) mss_nil)
    (mss_cons (ms_set (i := 4) sc__law_bounds_right.nd rfl (by first | exact .inl rfl | exact .inr rfl) (me_call c__law_calm (hr.mono (by decide)) rfl (ma_cons (mv 0) (ma_cons (me_tupL rfl m_tuple (mq_new (mf_comp (own := ["_law_k"]) (capn := ["_law_one", "_law_other"]) (caps := [2, 3]) rfl (CScope.mk' rfl (by decide +kernel) (by decide +kernel) (by repeat' (first | exact FreeIn.nil | refine FreeIn.cons (by first | exact (fun _ => .inl rfl) | exact (fun _ => .inr rfl) | (intro z; cases z; done)) ?_)) (CapIn.cons rfl rfl (CapIn.cons rfl rfl CapIn.nil))) (mi_range rfl m_range (me_len rfl m_len (mq_of (mv 2))))
      (fun cl C s H ex => ⟨(mg_name (i := 0) (show ((["_law_k"] : List Str) ++ (["_law_one", "_law_other"] : List Str)).Nodup by decide +kernel) rfl (by first | exact .inl rfl | exact .inr rfl)), mts_nil, (me_max rfl rfl m_max (me_at (mv 1) (mv 0) (fun _ _ => rfl)) (me_at (mv 2) (mv 0) (fun _ _ => rfl)))⟩)))) ma_nil)) mkFn_np))
    (mss_cons (ms_set (i := 5) sc__law_bounds_right.nd rfl (by first | exact .inl rfl | exact .inr rfl) (me_call c__law_calm (hr.mono (by decide)) rfl (ma_cons (mv 0) (ma_cons (me_tupL rfl m_tuple (mq_new (mf_comp (own := ["_law_k"]) (capn := ["_law_one", "_law_other"]) (caps := [2, 3]) rfl (CScope.mk' rfl (by decide +kernel) (by decide +kernel) (by repeat' (first | exact FreeIn.nil | refine FreeIn.cons (by first | exact (fun _ => .inl rfl) | exact (fun _ => .inr rfl) | (intro z; cases z; done)) ?_)) (CapIn.cons rfl rfl (CapIn.cons rfl rfl CapIn.nil))) (mi_range rfl m_range (me_len rfl m_len (mq_of (mv 2))))
      (fun cl C s H ex => ⟨(mg_name (i := 0) (show ((["_law_k"] : List Str) ++ (["_law_one", "_law_other"] : List Str)).Nodup by decide +kernel) rfl (by first | exact .inl rfl | exact .inr rfl)), mts_nil, (me_min rfl rfl m_min (me_at (mv 1) (mv 0) (fun _ _ => rfl)) (me_at (mv 2) (mv 0) (fun _ _ => rfl)))⟩)))) ma_nil)) mkFn_np))
    (mss_one (ms_ret (MB.me (mb_and (mb_of (me_cmp (op_eqG hu) og_eq (me_call c_joined (hr.mono (by decide)) rfl (ma_cons (mv 1) (ma_cons (mv 2) (ma_cons (mv 3) ma_nil))) mkFn_np) (mv 4) (nomark _))) (mb_one (mb_of (me_cmp (op_eqG hu) og_eq (me_call c_met (hr.mono (by decide)) rfl (ma_cons (mv 1) (ma_cons (mv 2) (ma_cons (mv 3) ma_nil))) mkFn_np) (mv 5) (nomark _)))))))))))
theorem sc_law : FnScope ["_law_script", "_law_model_here", "_law_many", "_law_web", "_law_way", "_law_ones", "_law_one", "_law_other", "_law_bounds", "_law_far_here", "_law_told", "_law_k", "_law_start", "_law_found", "_law_third"] ["_law_script"] (defScope s_law) := ⟨rfl, rfl, rfl, by decide +kernel, rfl, by decide +kernel, by decide +kernel⟩
theorem ok_law (F : Fun K "law" "law" s_law f fd) (m_int : mg "int" = none) (m_range : mg "range" = none) (m_max : mg "max" = none) (m_len : mg "len" = none) (c_met : Def P w K mg base "met" 8 3 F_met) (c_joined : Def P w K mg base "joined" 8 3 F_joined) (c__law_bounds_right : Def P w K mg base "_law_bounds_right" 9 4 F_l_bounds_right) (c__law_calm : Def P w K mg base "_law_calm" 2 2 F_l_calm) (c__law_fitting : Def P w K mg base "_law_fitting" 1 2 F_l_fitting) (c_ended : Def P w K mg base "ended" 6 2 F_ended) (c__law_below : Def P w K mg base "_law_below" 1 2 F_l_below) (c_history : Def P w K mg base "history" 6 3 F_history) (c__law_far : Def P w K mg base "_law_far" 2 2 F_l_far) (c_greatest_rest : Def P w K mg base "greatest_rest" 8 1 F_greatest_rest) (c_least_rest : Def P w K mg base "least_rest" 8 1 F_least_rest) (c__law_row : Def P w K mg base "_law_row" 1 4 F_l_row) (c__law_cell : Def P w K mg base "_law_cell" 1 2 F_l_cell) (c__law_made : Def P w K mg base "_law_made" 6 1 F_l_made) (c__law_model : Def P w K mg base "_law_model" 2 2 F_l_model) : FnOk P w K mg base CX0 10 f fd ["_law_script"] (spF K F_law 1) := by
  refine fn_mk F sc_law fun cdv A outer s H E hr => ?_
  have hu := hu24 hr
  exact (mss_cons (ms_set (i := 1) sc_law.nd rfl (by first | exact .inl rfl | exact .inr rfl) (me_call c__law_model (hr.mono (by decide)) rfl (ma_cons (mv 0) (ma_cons me_int ma_nil)) mkFn_np))
    (mss_cons (ms_set (i := 2) sc_law.nd rfl (by first | exact .inl rfl | exact .inr rfl) (me_len rfl m_len (mq_of (me_at (mv 1) me_int (fun _ _ => rfl)))))
    (mss_cons (ms_set (i := 3) sc_law.nd rfl (by first | exact .inl rfl | exact .inr rfl) (me_call c__law_made (hr.mono (by decide)) rfl (ma_cons (mv 1) ma_nil) mkFn_np))
    (mss_cons (ms_set (i := 4) sc_law.nd rfl (by first | exact .inl rfl | exact .inr rfl) (me_call c__law_cell (hr.mono (by decide)) rfl (ma_cons (mv 0) (ma_cons me_int ma_nil)) mkFn_np))
    (mss_cons (ms_set (i := 5) sc_law.nd rfl (by first | exact .inl rfl | exact .inr rfl) (me_call c__law_row (hr.mono (by decide)) rfl (ma_cons (me_call c__law_cell (hr.mono (by decide)) rfl (ma_cons (mv 0) (ma_cons me_int ma_nil)) mkFn_np) (ma_cons (mv 4) (ma_cons (mv 2) (ma_cons me_int ma_nil)))) mkFn_np))
    (mss_cons (ms_set (i := 6) sc_law.nd rfl (by first | exact .inl rfl | exact .inr rfl) (me_call c__law_fitting (hr.mono (by decide)) rfl (ma_cons (mv 1) (ma_cons (me_new (mf_comp (own := ["_law_number"]) (capn := []) (caps := []) rfl (CScope.mk' rfl (by decide +kernel) (by decide +kernel) (by repeat' (first | exact FreeIn.nil | refine FreeIn.cons (by first | exact (fun _ => .inl rfl) | exact (fun _ => .inr rfl) | (intro z; cases z; done)) ?_)) CapIn.nil) (mi_seq (mv 5))
      (fun cl C s H ex => ⟨(mg_name (i := 0) (show ((["_law_number"] : List Str) ++ ([] : List Str)).Nodup by decide +kernel) rfl (by first | exact .inl rfl | exact .inr rfl)), mts_nil, (me_intc rfl m_int (me_cmp (op_eqG hu) og_eq (mv 0) me_int (nomark _)))⟩))) ma_nil)) mkFn_np))
    (mss_cons (ms_set (i := 7) sc_law.nd rfl (by first | exact .inl rfl | exact .inr rfl) (me_call c__law_fitting (hr.mono (by decide)) rfl (ma_cons (mv 1) (ma_cons (me_new (mf_comp (own := ["_law_number"]) (capn := []) (caps := []) rfl (CScope.mk' rfl (by decide +kernel) (by decide +kernel) (by repeat' (first | exact FreeIn.nil | refine FreeIn.cons (by first | exact (fun _ => .inl rfl) | exact (fun _ => .inr rfl) | (intro z; cases z; done)) ?_)) CapIn.nil) (mi_seq (mv 5))
      (fun cl C s H ex => ⟨(mg_name (i := 0) (show ((["_law_number"] : List Str) ++ ([] : List Str)).Nodup by decide +kernel) rfl (by first | exact .inl rfl | exact .inr rfl)), mts_nil, (me_intc rfl m_int (me_cmp op_gt og_B (mv 0) me_int (nomark _)))⟩))) ma_nil)) mkFn_np))
    (mss_cons (ms_set (i := 8) sc_law.nd rfl (by first | exact .inl rfl | exact .inr rfl) (me_tup (ma_cons (me_call c_least_rest (hr.mono (by decide)) rfl (ma_cons (mv 3) ma_nil) mkFn_np) (ma_cons (me_call c_greatest_rest (hr.mono (by decide)) rfl (ma_cons (mv 3) ma_nil) mkFn_np) ma_nil))))
    (mss_cons (ms_set (i := 9) sc_law.nd rfl (by first | exact .inl rfl | exact .inr rfl) (me_max rfl rfl m_max (me_call c__law_far (hr.mono (by decide)) rfl (ma_cons (mv 1) (ma_cons me_int ma_nil)) mkFn_np) (me_call c__law_far (hr.mono (by decide)) rfl (ma_cons (mv 1) (ma_cons me_int ma_nil)) mkFn_np)))
    (mss_cons (ms_set (i := 10) sc_law.nd rfl (by first | exact .inl rfl | exact .inr rfl) (me_new (mf_lst (ma_cons (me_call c_history (hr.mono (by decide)) rfl (ma_cons (mv 3) (ma_cons (mv 6) (ma_cons (me_op op_add2 og_add (mv 9) me_int) ma_nil))) mkFn_np) (ma_cons (me_call c_history (hr.mono (by decide)) rfl (ma_cons (mv 3) (ma_cons (mv 7) (ma_cons (me_op op_add2 og_add (mv 9) me_int) ma_nil))) mkFn_np) ma_nil)) (fun _ _ _ _ z => by rw [(aCons_len (aCons_len aNil_len)) _ _ _ _ z]; decide))))
    (mss_cons (ms_for PassesOwn.never rfl (mi_range rfl m_range (me_op op_add2 og_add (mv 9) me_int)) (mg_name (i := 11) sc_law.nd rfl (by first | exact .inl rfl | exact .inr rfl)) (mss_cons (ms_if (mt_not (mt_val (me_call c__law_below (hr.mono (by decide)) rfl (ma_cons (me_at (me_at (mv 10) me_int (fun _ _ => rfl)) (mv 11) (fun _ _ => rfl)) (ma_cons (me_at (me_at (mv 10) me_int (fun _ _ => rfl)) (mv 11) (fun _ _ => rfl)) ma_nil)) mkFn_np))) (mss_one (ms_ret me_bl)) mss_nil)
    (mss_cons (ms_if (MW.mt (mw_and (mt_cmp op_ge og_B (mv 11) (mv 9) (nomark _)) (mw_one (mt_not (mt_val (me_call c__law_below (hr.mono (by decide)) rfl (ma_cons (me_at (mv 8) me_int (fun _ _ => rfl)) (ma_cons (me_at (me_at (mv 10) me_int (fun _ _ => rfl)) (mv 11) (fun _ _ => rfl)) ma_nil)) mkFn_np))) (.inl rfl)))) (mss_one (ms_ret me_bl)) mss_nil)
    (mss_one (ms_if (MW.mt (mw_and (mt_cmp op_ge og_B (mv 11) (mv 9) (nomark _)) (mw_one (mt_not (mt_val (me_call c__law_below (hr.mono (by decide)) rfl (ma_cons (me_at (me_at (mv 10) me_int (fun _ _ => rfl)) (mv 11) (fun _ _ => rfl)) (ma_cons (me_at (mv 8) me_int (fun _ _ => rfl)) ma_nil)) mkFn_np))) (.inl rfl)))) (mss_one (ms_ret me_bl)) mss_nil)))))
    (mss_cons (ms_if (mt_cmp (op_eqG hu) og_eq (me_at (mv 8) me_int (fun _ _ => rfl)) (me_at (mv 8) me_int (fun _ _ => rfl)) (nomark _)) (mss_one (ms_for PassesOwn.never rfl (mi_new (mf_lst (ma_cons (mv 6) (ma_cons (mv 7) ma_nil)) (fun _ _ _ _ z => by rw [(aCons_len (aCons_len aNil_len)) _ _ _ _ z]; decide))) (mg_name (i := 12) sc_law.nd rfl (by first | exact .inl rfl | exact .inr rfl)) (mss_cons (ms_set (i := 13) sc_law.nd rfl (by first | exact .inl rfl | exact .inr rfl) (me_call c_ended (hr.mono (by decide)) rfl (ma_cons (mv 3) (ma_cons (mv 12) ma_nil)) mkFn_np))
    (mss_one (ms_if (MW.mt (mw_or (mt_cmp (op_neG hu) og_ne (me_at (mv 13) me_int (fun _ _ => rfl)) (me_str [114, 101, 115, 116] rfl) (nomark _)) (mw_one (mt_cmp (op_neG hu) og_ne (me_at (me_at (mv 13) me_int (fun _ _ => rfl)) me_negC (fun _ _ => rfl)) (me_at (mv 8) me_int (fun _ _ => rfl)) (nomark _)) (.inr rfl)))) (mss_one (ms_ret me_bl)) mss_nil))))) mss_nil)
    (mss_cons (ms_set (i := 14) sc_law.nd rfl (by first | exact .inl rfl | exact .inr rfl) (me_call c__law_fitting (hr.mono (by decide)) rfl (ma_cons (mv 1) (ma_cons (me_new (mf_comp (own := ["_law_number"]) (capn := []) (caps := []) rfl (CScope.mk' rfl (by decide +kernel) (by decide +kernel) (by repeat' (first | exact FreeIn.nil | refine FreeIn.cons (by first | exact (fun _ => .inl rfl) | exact (fun _ => .inr rfl) | (intro z; cases z; done)) ?_)) CapIn.nil) (mi_seq (mv 5))
      (fun cl C s H ex => ⟨(mg_name (i := 0) (show ((["_law_number"] : List Str) ++ ([] : List Str)).Nodup by decide +kernel) rfl (by first | exact .inl rfl | exact .inr rfl)), mts_nil, (me_intc rfl m_int (me_cmp (op_eqG hu) og_eq (mv 0) me_int (nomark _)))⟩))) ma_nil)) mkFn_np))
    (mss_cons (ms_if (mt_not (mt_val (me_call c__law_bounds_right (hr.mono (by decide)) rfl (ma_cons (mv 1) (ma_cons (mv 3) (ma_cons (me_call c__law_calm (hr.mono (by decide)) rfl (ma_cons (mv 1) (ma_cons (mv 6) ma_nil)) mkFn_np) (ma_cons (me_call c__law_calm (hr.mono (by decide)) rfl (ma_cons (mv 1) (ma_cons (mv 14) ma_nil)) mkFn_np) ma_nil)))) mkFn_np))) (mss_one (ms_ret me_bl)) mss_nil)
    (mss_one (ms_ret (MB.me (mb_and (mb_of (me_cmp (op_eqG hu) og_eq (me_call c_joined (hr.mono (by decide)) rfl (ma_cons (mv 3) (ma_cons (me_at (mv 8) me_int (fun _ _ => rfl)) (ma_cons (me_at (mv 8) me_int (fun _ _ => rfl)) ma_nil))) mkFn_np) (me_at (mv 8) me_int (fun _ _ => rfl)) (nomark _))) (mb_one (mb_of (me_cmp (op_eqG hu) og_eq (me_call c_met (hr.mono (by decide)) rfl (ma_cons (mv 3) (ma_cons (me_at (mv 8) me_int (fun _ _ => rfl)) (ma_cons (me_at (mv 8) me_int (fun _ _ => rfl)) ma_nil))) mkFn_np) (me_at (mv 8) me_int (fun _ _ => rfl)) (nomark _))))))))))))))))))))))
end
theorem args1_of {α : Type} (us : List α) (hl : us.length = 1) : ∃ x0, us = [x0] := match us, hl with | [x0], _ => ⟨x0, rfl⟩
theorem args2_of {α : Type} (us : List α) (hl : us.length = 2) : ∃ x0 x1, us = [x0, x1] := match us, hl with | [x0, x1], _ => ⟨x0, x1, rfl⟩
theorem args3_of {α : Type} (us : List α) (hl : us.length = 3) : ∃ x0 x1 x2, us = [x0, x1, x2] := match us, hl with | [x0, x1, x2], _ => ⟨x0, x1, x2, rfl⟩
theorem args4_of {α : Type} (us : List α) (hl : us.length = 4) : ∃ x0 x1 x2 x3, us = [x0, x1, x2, x3] := match us, hl with | [x0, x1, x2, x3], _ => ⟨x0, x1, x2, x3, rfl⟩
theorem all_mk {l : PySem.W.OpenLaw} {w : World} {K : PySem.W.Frag} {h : Heap} {mg : Str → Option Value} {fa f_is_whole f_is_between f_is_opinion f_is_tie f_neighbours f_bars_told f_stays_told f_web_of f_many_of f_ties_of f_bar_of f_stay_of f_stays_of f_fits f_check_stand f_pull_at f_next_at f_turn_at f_history f_ended f_is_rest f_end_of f_stand_of_all f_least_rest f_greatest_rest f_check_rests f_joined f_met f__law_cell f__law_row f__law_model f__law_lines f__law_turn f__law_fitting f__law_made f__law_below f__law_far f__law_calm f__law_bounds_right f_law : Addr} (X : K.In h) (G : h.Ns mainGlobals mg) (hfa : mg "law" = some (.ref fa))
    {od_is_whole an_is_whole : Option Addr} {sl_is_whole : Array (Option Value)} {oc_is_whole kV_is_whole dc_is_whole pm_is_whole cd_is_whole ct_is_whole : Value}
    (a_is_whole : PySem.W.nsIn K mainGlobals "is_whole" = some (some (.ref f_is_whole))) (l_is_whole : K.lookup f_is_whole = some ⟨oc_is_whole, od_is_whole, .func (PySem.W.fnOf "is_whole" "is_whole" (defArgs s_is_whole) (defBody s_is_whole) (defScope s_is_whole) .none kV_is_whole dc_is_whole pm_is_whole an_is_whole cd_is_whole ct_is_whole), sl_is_whole⟩) (c_is_whole : PySem.W.codeIn K cd_is_whole "is_whole" = true) (k_is_whole : PySem.W.keepIn K (.ref f_is_whole) = true)
    {od_is_between an_is_between : Option Addr} {sl_is_between : Array (Option Value)} {oc_is_between kV_is_between dc_is_between pm_is_between cd_is_between ct_is_between : Value}
    (a_is_between : PySem.W.nsIn K mainGlobals "is_between" = some (some (.ref f_is_between))) (l_is_between : K.lookup f_is_between = some ⟨oc_is_between, od_is_between, .func (PySem.W.fnOf "is_between" "is_between" (defArgs s_is_between) (defBody s_is_between) (defScope s_is_between) .none kV_is_between dc_is_between pm_is_between an_is_between cd_is_between ct_is_between), sl_is_between⟩) (c_is_between : PySem.W.codeIn K cd_is_between "is_between" = true) (k_is_between : PySem.W.keepIn K (.ref f_is_between) = true)
    {od_is_opinion an_is_opinion : Option Addr} {sl_is_opinion : Array (Option Value)} {oc_is_opinion kV_is_opinion dc_is_opinion pm_is_opinion cd_is_opinion ct_is_opinion : Value}
    (a_is_opinion : PySem.W.nsIn K mainGlobals "is_opinion" = some (some (.ref f_is_opinion))) (l_is_opinion : K.lookup f_is_opinion = some ⟨oc_is_opinion, od_is_opinion, .func (PySem.W.fnOf "is_opinion" "is_opinion" (defArgs s_is_opinion) (defBody s_is_opinion) (defScope s_is_opinion) .none kV_is_opinion dc_is_opinion pm_is_opinion an_is_opinion cd_is_opinion ct_is_opinion), sl_is_opinion⟩) (c_is_opinion : PySem.W.codeIn K cd_is_opinion "is_opinion" = true) (k_is_opinion : PySem.W.keepIn K (.ref f_is_opinion) = true)
    {od_is_tie an_is_tie : Option Addr} {sl_is_tie : Array (Option Value)} {oc_is_tie kV_is_tie dc_is_tie pm_is_tie cd_is_tie ct_is_tie : Value}
    (a_is_tie : PySem.W.nsIn K mainGlobals "is_tie" = some (some (.ref f_is_tie))) (l_is_tie : K.lookup f_is_tie = some ⟨oc_is_tie, od_is_tie, .func (PySem.W.fnOf "is_tie" "is_tie" (defArgs s_is_tie) (defBody s_is_tie) (defScope s_is_tie) .none kV_is_tie dc_is_tie pm_is_tie an_is_tie cd_is_tie ct_is_tie), sl_is_tie⟩) (c_is_tie : PySem.W.codeIn K cd_is_tie "is_tie" = true) (k_is_tie : PySem.W.keepIn K (.ref f_is_tie) = true)
    {od_neighbours an_neighbours : Option Addr} {sl_neighbours : Array (Option Value)} {oc_neighbours kV_neighbours dc_neighbours pm_neighbours cd_neighbours ct_neighbours : Value}
    (a_neighbours : PySem.W.nsIn K mainGlobals "neighbours" = some (some (.ref f_neighbours))) (l_neighbours : K.lookup f_neighbours = some ⟨oc_neighbours, od_neighbours, .func (PySem.W.fnOf "neighbours" "neighbours" (defArgs s_neighbours) (defBody s_neighbours) (defScope s_neighbours) .none kV_neighbours dc_neighbours pm_neighbours an_neighbours cd_neighbours ct_neighbours), sl_neighbours⟩) (c_neighbours : PySem.W.codeIn K cd_neighbours "neighbours" = true) (k_neighbours : PySem.W.keepIn K (.ref f_neighbours) = true)
    {od_bars_told an_bars_told : Option Addr} {sl_bars_told : Array (Option Value)} {oc_bars_told kV_bars_told dc_bars_told pm_bars_told cd_bars_told ct_bars_told : Value}
    (a_bars_told : PySem.W.nsIn K mainGlobals "bars_told" = some (some (.ref f_bars_told))) (l_bars_told : K.lookup f_bars_told = some ⟨oc_bars_told, od_bars_told, .func (PySem.W.fnOf "bars_told" "bars_told" (defArgs s_bars_told) (defBody s_bars_told) (defScope s_bars_told) .none kV_bars_told dc_bars_told pm_bars_told an_bars_told cd_bars_told ct_bars_told), sl_bars_told⟩) (c_bars_told : PySem.W.codeIn K cd_bars_told "bars_told" = true) (k_bars_told : PySem.W.keepIn K (.ref f_bars_told) = true)
    {od_stays_told an_stays_told : Option Addr} {sl_stays_told : Array (Option Value)} {oc_stays_told kV_stays_told dc_stays_told pm_stays_told cd_stays_told ct_stays_told : Value}
    (a_stays_told : PySem.W.nsIn K mainGlobals "stays_told" = some (some (.ref f_stays_told))) (l_stays_told : K.lookup f_stays_told = some ⟨oc_stays_told, od_stays_told, .func (PySem.W.fnOf "stays_told" "stays_told" (defArgs s_stays_told) (defBody s_stays_told) (defScope s_stays_told) .none kV_stays_told dc_stays_told pm_stays_told an_stays_told cd_stays_told ct_stays_told), sl_stays_told⟩) (c_stays_told : PySem.W.codeIn K cd_stays_told "stays_told" = true) (k_stays_told : PySem.W.keepIn K (.ref f_stays_told) = true)
    {od_web_of an_web_of : Option Addr} {sl_web_of : Array (Option Value)} {oc_web_of kV_web_of dc_web_of pm_web_of cd_web_of ct_web_of : Value}
    (a_web_of : PySem.W.nsIn K mainGlobals "web_of" = some (some (.ref f_web_of))) (l_web_of : K.lookup f_web_of = some ⟨oc_web_of, od_web_of, .func (PySem.W.fnOf "web_of" "web_of" (defArgs s_web_of) (defBody s_web_of) (defScope s_web_of) .none kV_web_of dc_web_of pm_web_of an_web_of cd_web_of ct_web_of), sl_web_of⟩) (c_web_of : PySem.W.codeIn K cd_web_of "web_of" = true) (k_web_of : PySem.W.keepIn K (.ref f_web_of) = true)
    {od_many_of an_many_of : Option Addr} {sl_many_of : Array (Option Value)} {oc_many_of kV_many_of dc_many_of pm_many_of cd_many_of ct_many_of : Value}
    (a_many_of : PySem.W.nsIn K mainGlobals "many_of" = some (some (.ref f_many_of))) (l_many_of : K.lookup f_many_of = some ⟨oc_many_of, od_many_of, .func (PySem.W.fnOf "many_of" "many_of" (defArgs s_many_of) (defBody s_many_of) (defScope s_many_of) .none kV_many_of dc_many_of pm_many_of an_many_of cd_many_of ct_many_of), sl_many_of⟩) (c_many_of : PySem.W.codeIn K cd_many_of "many_of" = true) (k_many_of : PySem.W.keepIn K (.ref f_many_of) = true)
    {od_ties_of an_ties_of : Option Addr} {sl_ties_of : Array (Option Value)} {oc_ties_of kV_ties_of dc_ties_of pm_ties_of cd_ties_of ct_ties_of : Value}
    (a_ties_of : PySem.W.nsIn K mainGlobals "ties_of" = some (some (.ref f_ties_of))) (l_ties_of : K.lookup f_ties_of = some ⟨oc_ties_of, od_ties_of, .func (PySem.W.fnOf "ties_of" "ties_of" (defArgs s_ties_of) (defBody s_ties_of) (defScope s_ties_of) .none kV_ties_of dc_ties_of pm_ties_of an_ties_of cd_ties_of ct_ties_of), sl_ties_of⟩) (c_ties_of : PySem.W.codeIn K cd_ties_of "ties_of" = true) (k_ties_of : PySem.W.keepIn K (.ref f_ties_of) = true)
    {od_bar_of an_bar_of : Option Addr} {sl_bar_of : Array (Option Value)} {oc_bar_of kV_bar_of dc_bar_of pm_bar_of cd_bar_of ct_bar_of : Value}
    (a_bar_of : PySem.W.nsIn K mainGlobals "bar_of" = some (some (.ref f_bar_of))) (l_bar_of : K.lookup f_bar_of = some ⟨oc_bar_of, od_bar_of, .func (PySem.W.fnOf "bar_of" "bar_of" (defArgs s_bar_of) (defBody s_bar_of) (defScope s_bar_of) .none kV_bar_of dc_bar_of pm_bar_of an_bar_of cd_bar_of ct_bar_of), sl_bar_of⟩) (c_bar_of : PySem.W.codeIn K cd_bar_of "bar_of" = true) (k_bar_of : PySem.W.keepIn K (.ref f_bar_of) = true)
    {od_stay_of an_stay_of : Option Addr} {sl_stay_of : Array (Option Value)} {oc_stay_of kV_stay_of dc_stay_of pm_stay_of cd_stay_of ct_stay_of : Value}
    (a_stay_of : PySem.W.nsIn K mainGlobals "stay_of" = some (some (.ref f_stay_of))) (l_stay_of : K.lookup f_stay_of = some ⟨oc_stay_of, od_stay_of, .func (PySem.W.fnOf "stay_of" "stay_of" (defArgs s_stay_of) (defBody s_stay_of) (defScope s_stay_of) .none kV_stay_of dc_stay_of pm_stay_of an_stay_of cd_stay_of ct_stay_of), sl_stay_of⟩) (c_stay_of : PySem.W.codeIn K cd_stay_of "stay_of" = true) (k_stay_of : PySem.W.keepIn K (.ref f_stay_of) = true)
    {od_stays_of an_stays_of : Option Addr} {sl_stays_of : Array (Option Value)} {oc_stays_of kV_stays_of dc_stays_of pm_stays_of cd_stays_of ct_stays_of : Value}
    (a_stays_of : PySem.W.nsIn K mainGlobals "stays_of" = some (some (.ref f_stays_of))) (l_stays_of : K.lookup f_stays_of = some ⟨oc_stays_of, od_stays_of, .func (PySem.W.fnOf "stays_of" "stays_of" (defArgs s_stays_of) (defBody s_stays_of) (defScope s_stays_of) .none kV_stays_of dc_stays_of pm_stays_of an_stays_of cd_stays_of ct_stays_of), sl_stays_of⟩) (c_stays_of : PySem.W.codeIn K cd_stays_of "stays_of" = true) (k_stays_of : PySem.W.keepIn K (.ref f_stays_of) = true)
    {od_fits an_fits : Option Addr} {sl_fits : Array (Option Value)} {oc_fits kV_fits dc_fits pm_fits cd_fits ct_fits : Value}
    (a_fits : PySem.W.nsIn K mainGlobals "fits" = some (some (.ref f_fits))) (l_fits : K.lookup f_fits = some ⟨oc_fits, od_fits, .func (PySem.W.fnOf "fits" "fits" (defArgs s_fits) (defBody s_fits) (defScope s_fits) .none kV_fits dc_fits pm_fits an_fits cd_fits ct_fits), sl_fits⟩) (c_fits : PySem.W.codeIn K cd_fits "fits" = true) (k_fits : PySem.W.keepIn K (.ref f_fits) = true)
    {od_check_stand an_check_stand : Option Addr} {sl_check_stand : Array (Option Value)} {oc_check_stand kV_check_stand dc_check_stand pm_check_stand cd_check_stand ct_check_stand : Value}
    (a_check_stand : PySem.W.nsIn K mainGlobals "check_stand" = some (some (.ref f_check_stand))) (l_check_stand : K.lookup f_check_stand = some ⟨oc_check_stand, od_check_stand, .func (PySem.W.fnOf "check_stand" "check_stand" (defArgs s_check_stand) (defBody s_check_stand) (defScope s_check_stand) .none kV_check_stand dc_check_stand pm_check_stand an_check_stand cd_check_stand ct_check_stand), sl_check_stand⟩) (c_check_stand : PySem.W.codeIn K cd_check_stand "check_stand" = true) (k_check_stand : PySem.W.keepIn K (.ref f_check_stand) = true)
    {od_pull_at an_pull_at : Option Addr} {sl_pull_at : Array (Option Value)} {oc_pull_at kV_pull_at dc_pull_at pm_pull_at cd_pull_at ct_pull_at : Value}
    (a_pull_at : PySem.W.nsIn K mainGlobals "pull_at" = some (some (.ref f_pull_at))) (l_pull_at : K.lookup f_pull_at = some ⟨oc_pull_at, od_pull_at, .func (PySem.W.fnOf "pull_at" "pull_at" (defArgs s_pull_at) (defBody s_pull_at) (defScope s_pull_at) .none kV_pull_at dc_pull_at pm_pull_at an_pull_at cd_pull_at ct_pull_at), sl_pull_at⟩) (c_pull_at : PySem.W.codeIn K cd_pull_at "pull_at" = true) (k_pull_at : PySem.W.keepIn K (.ref f_pull_at) = true)
    {od_next_at an_next_at : Option Addr} {sl_next_at : Array (Option Value)} {oc_next_at kV_next_at dc_next_at pm_next_at cd_next_at ct_next_at : Value}
    (a_next_at : PySem.W.nsIn K mainGlobals "next_at" = some (some (.ref f_next_at))) (l_next_at : K.lookup f_next_at = some ⟨oc_next_at, od_next_at, .func (PySem.W.fnOf "next_at" "next_at" (defArgs s_next_at) (defBody s_next_at) (defScope s_next_at) .none kV_next_at dc_next_at pm_next_at an_next_at cd_next_at ct_next_at), sl_next_at⟩) (c_next_at : PySem.W.codeIn K cd_next_at "next_at" = true) (k_next_at : PySem.W.keepIn K (.ref f_next_at) = true)
    {od_turn_at an_turn_at : Option Addr} {sl_turn_at : Array (Option Value)} {oc_turn_at kV_turn_at dc_turn_at pm_turn_at cd_turn_at ct_turn_at : Value}
    (a_turn_at : PySem.W.nsIn K mainGlobals "turn_at" = some (some (.ref f_turn_at))) (l_turn_at : K.lookup f_turn_at = some ⟨oc_turn_at, od_turn_at, .func (PySem.W.fnOf "turn_at" "turn_at" (defArgs s_turn_at) (defBody s_turn_at) (defScope s_turn_at) .none kV_turn_at dc_turn_at pm_turn_at an_turn_at cd_turn_at ct_turn_at), sl_turn_at⟩) (c_turn_at : PySem.W.codeIn K cd_turn_at "turn_at" = true) (k_turn_at : PySem.W.keepIn K (.ref f_turn_at) = true)
    {od_history an_history : Option Addr} {sl_history : Array (Option Value)} {oc_history kV_history dc_history pm_history cd_history ct_history : Value}
    (a_history : PySem.W.nsIn K mainGlobals "history" = some (some (.ref f_history))) (l_history : K.lookup f_history = some ⟨oc_history, od_history, .func (PySem.W.fnOf "history" "history" (defArgs s_history) (defBody s_history) (defScope s_history) .none kV_history dc_history pm_history an_history cd_history ct_history), sl_history⟩) (c_history : PySem.W.codeIn K cd_history "history" = true) (k_history : PySem.W.keepIn K (.ref f_history) = true)
    {od_ended an_ended : Option Addr} {sl_ended : Array (Option Value)} {oc_ended kV_ended dc_ended pm_ended cd_ended ct_ended : Value}
    (a_ended : PySem.W.nsIn K mainGlobals "ended" = some (some (.ref f_ended))) (l_ended : K.lookup f_ended = some ⟨oc_ended, od_ended, .func (PySem.W.fnOf "ended" "ended" (defArgs s_ended) (defBody s_ended) (defScope s_ended) .none kV_ended dc_ended pm_ended an_ended cd_ended ct_ended), sl_ended⟩) (c_ended : PySem.W.codeIn K cd_ended "ended" = true) (k_ended : PySem.W.keepIn K (.ref f_ended) = true)
    {od_is_rest an_is_rest : Option Addr} {sl_is_rest : Array (Option Value)} {oc_is_rest kV_is_rest dc_is_rest pm_is_rest cd_is_rest ct_is_rest : Value}
    (a_is_rest : PySem.W.nsIn K mainGlobals "is_rest" = some (some (.ref f_is_rest))) (l_is_rest : K.lookup f_is_rest = some ⟨oc_is_rest, od_is_rest, .func (PySem.W.fnOf "is_rest" "is_rest" (defArgs s_is_rest) (defBody s_is_rest) (defScope s_is_rest) .none kV_is_rest dc_is_rest pm_is_rest an_is_rest cd_is_rest ct_is_rest), sl_is_rest⟩) (c_is_rest : PySem.W.codeIn K cd_is_rest "is_rest" = true) (k_is_rest : PySem.W.keepIn K (.ref f_is_rest) = true)
    {od_end_of an_end_of : Option Addr} {sl_end_of : Array (Option Value)} {oc_end_of kV_end_of dc_end_of pm_end_of cd_end_of ct_end_of : Value}
    (a_end_of : PySem.W.nsIn K mainGlobals "end_of" = some (some (.ref f_end_of))) (l_end_of : K.lookup f_end_of = some ⟨oc_end_of, od_end_of, .func (PySem.W.fnOf "end_of" "end_of" (defArgs s_end_of) (defBody s_end_of) (defScope s_end_of) .none kV_end_of dc_end_of pm_end_of an_end_of cd_end_of ct_end_of), sl_end_of⟩) (c_end_of : PySem.W.codeIn K cd_end_of "end_of" = true) (k_end_of : PySem.W.keepIn K (.ref f_end_of) = true)
    {od_stand_of_all an_stand_of_all : Option Addr} {sl_stand_of_all : Array (Option Value)} {oc_stand_of_all kV_stand_of_all dc_stand_of_all pm_stand_of_all cd_stand_of_all ct_stand_of_all : Value}
    (a_stand_of_all : PySem.W.nsIn K mainGlobals "stand_of_all" = some (some (.ref f_stand_of_all))) (l_stand_of_all : K.lookup f_stand_of_all = some ⟨oc_stand_of_all, od_stand_of_all, .func (PySem.W.fnOf "stand_of_all" "stand_of_all" (defArgs s_stand_of_all) (defBody s_stand_of_all) (defScope s_stand_of_all) .none kV_stand_of_all dc_stand_of_all pm_stand_of_all an_stand_of_all cd_stand_of_all ct_stand_of_all), sl_stand_of_all⟩) (c_stand_of_all : PySem.W.codeIn K cd_stand_of_all "stand_of_all" = true) (k_stand_of_all : PySem.W.keepIn K (.ref f_stand_of_all) = true)
    {od_least_rest an_least_rest : Option Addr} {sl_least_rest : Array (Option Value)} {oc_least_rest kV_least_rest dc_least_rest pm_least_rest cd_least_rest ct_least_rest : Value}
    (a_least_rest : PySem.W.nsIn K mainGlobals "least_rest" = some (some (.ref f_least_rest))) (l_least_rest : K.lookup f_least_rest = some ⟨oc_least_rest, od_least_rest, .func (PySem.W.fnOf "least_rest" "least_rest" (defArgs s_least_rest) (defBody s_least_rest) (defScope s_least_rest) .none kV_least_rest dc_least_rest pm_least_rest an_least_rest cd_least_rest ct_least_rest), sl_least_rest⟩) (c_least_rest : PySem.W.codeIn K cd_least_rest "least_rest" = true) (k_least_rest : PySem.W.keepIn K (.ref f_least_rest) = true)
    {od_greatest_rest an_greatest_rest : Option Addr} {sl_greatest_rest : Array (Option Value)} {oc_greatest_rest kV_greatest_rest dc_greatest_rest pm_greatest_rest cd_greatest_rest ct_greatest_rest : Value}
    (a_greatest_rest : PySem.W.nsIn K mainGlobals "greatest_rest" = some (some (.ref f_greatest_rest))) (l_greatest_rest : K.lookup f_greatest_rest = some ⟨oc_greatest_rest, od_greatest_rest, .func (PySem.W.fnOf "greatest_rest" "greatest_rest" (defArgs s_greatest_rest) (defBody s_greatest_rest) (defScope s_greatest_rest) .none kV_greatest_rest dc_greatest_rest pm_greatest_rest an_greatest_rest cd_greatest_rest ct_greatest_rest), sl_greatest_rest⟩) (c_greatest_rest : PySem.W.codeIn K cd_greatest_rest "greatest_rest" = true) (k_greatest_rest : PySem.W.keepIn K (.ref f_greatest_rest) = true)
    {od_check_rests an_check_rests : Option Addr} {sl_check_rests : Array (Option Value)} {oc_check_rests kV_check_rests dc_check_rests pm_check_rests cd_check_rests ct_check_rests : Value}
    (a_check_rests : PySem.W.nsIn K mainGlobals "check_rests" = some (some (.ref f_check_rests))) (l_check_rests : K.lookup f_check_rests = some ⟨oc_check_rests, od_check_rests, .func (PySem.W.fnOf "check_rests" "check_rests" (defArgs s_check_rests) (defBody s_check_rests) (defScope s_check_rests) .none kV_check_rests dc_check_rests pm_check_rests an_check_rests cd_check_rests ct_check_rests), sl_check_rests⟩) (c_check_rests : PySem.W.codeIn K cd_check_rests "check_rests" = true) (k_check_rests : PySem.W.keepIn K (.ref f_check_rests) = true)
    {od_joined an_joined : Option Addr} {sl_joined : Array (Option Value)} {oc_joined kV_joined dc_joined pm_joined cd_joined ct_joined : Value}
    (a_joined : PySem.W.nsIn K mainGlobals "joined" = some (some (.ref f_joined))) (l_joined : K.lookup f_joined = some ⟨oc_joined, od_joined, .func (PySem.W.fnOf "joined" "joined" (defArgs s_joined) (defBody s_joined) (defScope s_joined) .none kV_joined dc_joined pm_joined an_joined cd_joined ct_joined), sl_joined⟩) (c_joined : PySem.W.codeIn K cd_joined "joined" = true) (k_joined : PySem.W.keepIn K (.ref f_joined) = true)
    {od_met an_met : Option Addr} {sl_met : Array (Option Value)} {oc_met kV_met dc_met pm_met cd_met ct_met : Value}
    (a_met : PySem.W.nsIn K mainGlobals "met" = some (some (.ref f_met))) (l_met : K.lookup f_met = some ⟨oc_met, od_met, .func (PySem.W.fnOf "met" "met" (defArgs s_met) (defBody s_met) (defScope s_met) .none kV_met dc_met pm_met an_met cd_met ct_met), sl_met⟩) (c_met : PySem.W.codeIn K cd_met "met" = true) (k_met : PySem.W.keepIn K (.ref f_met) = true)
    {od__law_cell an__law_cell : Option Addr} {sl__law_cell : Array (Option Value)} {oc__law_cell kV__law_cell dc__law_cell pm__law_cell cd__law_cell ct__law_cell : Value}
    (a__law_cell : PySem.W.nsIn K mainGlobals "_law_cell" = some (some (.ref f__law_cell))) (l__law_cell : K.lookup f__law_cell = some ⟨oc__law_cell, od__law_cell, .func (PySem.W.fnOf "_law_cell" "_law_cell" (defArgs s__law_cell) (defBody s__law_cell) (defScope s__law_cell) .none kV__law_cell dc__law_cell pm__law_cell an__law_cell cd__law_cell ct__law_cell), sl__law_cell⟩) (c__law_cell : PySem.W.codeIn K cd__law_cell "_law_cell" = true) (k__law_cell : PySem.W.keepIn K (.ref f__law_cell) = true)
    {od__law_row an__law_row : Option Addr} {sl__law_row : Array (Option Value)} {oc__law_row kV__law_row dc__law_row pm__law_row cd__law_row ct__law_row : Value}
    (a__law_row : PySem.W.nsIn K mainGlobals "_law_row" = some (some (.ref f__law_row))) (l__law_row : K.lookup f__law_row = some ⟨oc__law_row, od__law_row, .func (PySem.W.fnOf "_law_row" "_law_row" (defArgs s__law_row) (defBody s__law_row) (defScope s__law_row) .none kV__law_row dc__law_row pm__law_row an__law_row cd__law_row ct__law_row), sl__law_row⟩) (c__law_row : PySem.W.codeIn K cd__law_row "_law_row" = true) (k__law_row : PySem.W.keepIn K (.ref f__law_row) = true)
    {od__law_model an__law_model : Option Addr} {sl__law_model : Array (Option Value)} {oc__law_model kV__law_model dc__law_model pm__law_model cd__law_model ct__law_model : Value}
    (a__law_model : PySem.W.nsIn K mainGlobals "_law_model" = some (some (.ref f__law_model))) (l__law_model : K.lookup f__law_model = some ⟨oc__law_model, od__law_model, .func (PySem.W.fnOf "_law_model" "_law_model" (defArgs s__law_model) (defBody s__law_model) (defScope s__law_model) .none kV__law_model dc__law_model pm__law_model an__law_model cd__law_model ct__law_model), sl__law_model⟩) (c__law_model : PySem.W.codeIn K cd__law_model "_law_model" = true) (k__law_model : PySem.W.keepIn K (.ref f__law_model) = true)
    {od__law_lines an__law_lines : Option Addr} {sl__law_lines : Array (Option Value)} {oc__law_lines kV__law_lines dc__law_lines pm__law_lines cd__law_lines ct__law_lines : Value}
    (a__law_lines : PySem.W.nsIn K mainGlobals "_law_lines" = some (some (.ref f__law_lines))) (l__law_lines : K.lookup f__law_lines = some ⟨oc__law_lines, od__law_lines, .func (PySem.W.fnOf "_law_lines" "_law_lines" (defArgs s__law_lines) (defBody s__law_lines) (defScope s__law_lines) .none kV__law_lines dc__law_lines pm__law_lines an__law_lines cd__law_lines ct__law_lines), sl__law_lines⟩) (c__law_lines : PySem.W.codeIn K cd__law_lines "_law_lines" = true) (k__law_lines : PySem.W.keepIn K (.ref f__law_lines) = true)
    {od__law_turn an__law_turn : Option Addr} {sl__law_turn : Array (Option Value)} {oc__law_turn kV__law_turn dc__law_turn pm__law_turn cd__law_turn ct__law_turn : Value}
    (a__law_turn : PySem.W.nsIn K mainGlobals "_law_turn" = some (some (.ref f__law_turn))) (l__law_turn : K.lookup f__law_turn = some ⟨oc__law_turn, od__law_turn, .func (PySem.W.fnOf "_law_turn" "_law_turn" (defArgs s__law_turn) (defBody s__law_turn) (defScope s__law_turn) .none kV__law_turn dc__law_turn pm__law_turn an__law_turn cd__law_turn ct__law_turn), sl__law_turn⟩) (c__law_turn : PySem.W.codeIn K cd__law_turn "_law_turn" = true) (k__law_turn : PySem.W.keepIn K (.ref f__law_turn) = true)
    {od__law_fitting an__law_fitting : Option Addr} {sl__law_fitting : Array (Option Value)} {oc__law_fitting kV__law_fitting dc__law_fitting pm__law_fitting cd__law_fitting ct__law_fitting : Value}
    (a__law_fitting : PySem.W.nsIn K mainGlobals "_law_fitting" = some (some (.ref f__law_fitting))) (l__law_fitting : K.lookup f__law_fitting = some ⟨oc__law_fitting, od__law_fitting, .func (PySem.W.fnOf "_law_fitting" "_law_fitting" (defArgs s__law_fitting) (defBody s__law_fitting) (defScope s__law_fitting) .none kV__law_fitting dc__law_fitting pm__law_fitting an__law_fitting cd__law_fitting ct__law_fitting), sl__law_fitting⟩) (c__law_fitting : PySem.W.codeIn K cd__law_fitting "_law_fitting" = true) (k__law_fitting : PySem.W.keepIn K (.ref f__law_fitting) = true)
    {od__law_made an__law_made : Option Addr} {sl__law_made : Array (Option Value)} {oc__law_made kV__law_made dc__law_made pm__law_made cd__law_made ct__law_made : Value}
    (a__law_made : PySem.W.nsIn K mainGlobals "_law_made" = some (some (.ref f__law_made))) (l__law_made : K.lookup f__law_made = some ⟨oc__law_made, od__law_made, .func (PySem.W.fnOf "_law_made" "_law_made" (defArgs s__law_made) (defBody s__law_made) (defScope s__law_made) .none kV__law_made dc__law_made pm__law_made an__law_made cd__law_made ct__law_made), sl__law_made⟩) (c__law_made : PySem.W.codeIn K cd__law_made "_law_made" = true) (k__law_made : PySem.W.keepIn K (.ref f__law_made) = true)
    {od__law_below an__law_below : Option Addr} {sl__law_below : Array (Option Value)} {oc__law_below kV__law_below dc__law_below pm__law_below cd__law_below ct__law_below : Value}
    (a__law_below : PySem.W.nsIn K mainGlobals "_law_below" = some (some (.ref f__law_below))) (l__law_below : K.lookup f__law_below = some ⟨oc__law_below, od__law_below, .func (PySem.W.fnOf "_law_below" "_law_below" (defArgs s__law_below) (defBody s__law_below) (defScope s__law_below) .none kV__law_below dc__law_below pm__law_below an__law_below cd__law_below ct__law_below), sl__law_below⟩) (c__law_below : PySem.W.codeIn K cd__law_below "_law_below" = true) (k__law_below : PySem.W.keepIn K (.ref f__law_below) = true)
    {od__law_far an__law_far : Option Addr} {sl__law_far : Array (Option Value)} {oc__law_far kV__law_far dc__law_far pm__law_far cd__law_far ct__law_far : Value}
    (a__law_far : PySem.W.nsIn K mainGlobals "_law_far" = some (some (.ref f__law_far))) (l__law_far : K.lookup f__law_far = some ⟨oc__law_far, od__law_far, .func (PySem.W.fnOf "_law_far" "_law_far" (defArgs s__law_far) (defBody s__law_far) (defScope s__law_far) .none kV__law_far dc__law_far pm__law_far an__law_far cd__law_far ct__law_far), sl__law_far⟩) (c__law_far : PySem.W.codeIn K cd__law_far "_law_far" = true) (k__law_far : PySem.W.keepIn K (.ref f__law_far) = true)
    {od__law_calm an__law_calm : Option Addr} {sl__law_calm : Array (Option Value)} {oc__law_calm kV__law_calm dc__law_calm pm__law_calm cd__law_calm ct__law_calm : Value}
    (a__law_calm : PySem.W.nsIn K mainGlobals "_law_calm" = some (some (.ref f__law_calm))) (l__law_calm : K.lookup f__law_calm = some ⟨oc__law_calm, od__law_calm, .func (PySem.W.fnOf "_law_calm" "_law_calm" (defArgs s__law_calm) (defBody s__law_calm) (defScope s__law_calm) .none kV__law_calm dc__law_calm pm__law_calm an__law_calm cd__law_calm ct__law_calm), sl__law_calm⟩) (c__law_calm : PySem.W.codeIn K cd__law_calm "_law_calm" = true) (k__law_calm : PySem.W.keepIn K (.ref f__law_calm) = true)
    {od__law_bounds_right an__law_bounds_right : Option Addr} {sl__law_bounds_right : Array (Option Value)} {oc__law_bounds_right kV__law_bounds_right dc__law_bounds_right pm__law_bounds_right cd__law_bounds_right ct__law_bounds_right : Value}
    (a__law_bounds_right : PySem.W.nsIn K mainGlobals "_law_bounds_right" = some (some (.ref f__law_bounds_right))) (l__law_bounds_right : K.lookup f__law_bounds_right = some ⟨oc__law_bounds_right, od__law_bounds_right, .func (PySem.W.fnOf "_law_bounds_right" "_law_bounds_right" (defArgs s__law_bounds_right) (defBody s__law_bounds_right) (defScope s__law_bounds_right) .none kV__law_bounds_right dc__law_bounds_right pm__law_bounds_right an__law_bounds_right cd__law_bounds_right ct__law_bounds_right), sl__law_bounds_right⟩) (c__law_bounds_right : PySem.W.codeIn K cd__law_bounds_right "_law_bounds_right" = true) (k__law_bounds_right : PySem.W.keepIn K (.ref f__law_bounds_right) = true)
    {od_law an_law : Option Addr} {sl_law : Array (Option Value)} {oc_law kV_law dc_law pm_law cd_law ct_law : Value}
    (a_law : PySem.W.nsIn K mainGlobals "law" = some (some (.ref f_law))) (l_law : K.lookup f_law = some ⟨oc_law, od_law, .func (PySem.W.fnOf "law" "law" (defArgs s_law) (defBody s_law) (defScope s_law) .none kV_law dc_law pm_law an_law cd_law ct_law), sl_law⟩) (c_law : PySem.W.codeIn K cd_law "law" = true) (k_law : PySem.W.keepIn K (.ref f_law) = true)
    (z_isinstance : PySem.W.nsIn K mainGlobals "isinstance" = some none)
    (z_bool : PySem.W.nsIn K mainGlobals "bool" = some none)
    (z_int : PySem.W.nsIn K mainGlobals "int" = some none)
    (z_len : PySem.W.nsIn K mainGlobals "len" = some none)
    (z_tuple : PySem.W.nsIn K mainGlobals "tuple" = some none)
    (z_range : PySem.W.nsIn K mainGlobals "range" = some none)
    (z_list : PySem.W.nsIn K mainGlobals "list" = some none)
    (z_all : PySem.W.nsIn K mainGlobals "all" = some none)
    (z_sorted : PySem.W.nsIn K mainGlobals "sorted" = some none)
    (z_enumerate : PySem.W.nsIn K mainGlobals "enumerate" = some none)
    (z_sum : PySem.W.nsIn K mainGlobals "sum" = some none)
    (z_zip : PySem.W.nsIn K mainGlobals "zip" = some none)
    (z_max : PySem.W.nsIn K mainGlobals "max" = some none)
    (z_min : PySem.W.nsIn K mainGlobals "min" = some none)
    {t_MOST_WEIGHT : Tok} (z_MOST_WEIGHT : PySem.W.nsIn K mainGlobals "MOST_WEIGHT" = some (some (.int 400 t_MOST_WEIGHT)))
    {t_MOST_PEOPLE : Tok} (z_MOST_PEOPLE : PySem.W.nsIn K mainGlobals "MOST_PEOPLE" = some (some (.int 30 t_MOST_PEOPLE)))
    {t_MOST_TURNS : Tok} (z_MOST_TURNS : PySem.W.nsIn K mainGlobals "MOST_TURNS" = some (some (.int 400 t_MOST_TURNS)))
    : ∃ fd : FuncData, (∀ (s : Shared) (v : Value), BindsTo s fd ⟨[v], []⟩ [("_law_script", v)]) ∧ ∀ base : Heap, K.In base → base.Ns mainGlobals mg → FnOk l.prog w K mg base CX0 10 fa fd ["_law_script"] (spF K F_law 1) := by
  have e := hfa.symm.trans (PySem.W.mg_of X G a_law)
  cases e
  have m_isinstance := PySem.W.mg_none_of X G z_isinstance
  have m_bool := PySem.W.mg_none_of X G z_bool
  have m_int := PySem.W.mg_none_of X G z_int
  have m_len := PySem.W.mg_none_of X G z_len
  have m_tuple := PySem.W.mg_none_of X G z_tuple
  have m_range := PySem.W.mg_none_of X G z_range
  have m_list := PySem.W.mg_none_of X G z_list
  have m_all := PySem.W.mg_none_of X G z_all
  have m_sorted := PySem.W.mg_none_of X G z_sorted
  have m_enumerate := PySem.W.mg_none_of X G z_enumerate
  have m_sum := PySem.W.mg_none_of X G z_sum
  have m_zip := PySem.W.mg_none_of X G z_zip
  have m_max := PySem.W.mg_none_of X G z_max
  have m_min := PySem.W.mg_none_of X G z_min
  have g_MOST_WEIGHT := PySem.W.mg_of X G z_MOST_WEIGHT
  have g_MOST_PEOPLE := PySem.W.mg_of X G z_MOST_PEOPLE
  have g_MOST_TURNS := PySem.W.mg_of X G z_MOST_TURNS
  have U_is_whole := fun_mk (st := s_is_whole) l_is_whole c_is_whole k_is_whole
  have b_is_whole := U_is_whole.binds (ps := ["thing"]) fun _ _ _ _ _ _ us hl => by obtain ⟨_, rfl⟩ := args1_of us hl; rfl
  have U_is_between := fun_mk (st := s_is_between) l_is_between c_is_between k_is_between
  have b_is_between := U_is_between.binds (ps := ["thing", "least", "most"]) fun _ _ _ _ _ _ us hl => by obtain ⟨_, _, _, rfl⟩ := args3_of us hl; rfl
  have U_is_opinion := fun_mk (st := s_is_opinion) l_is_opinion c_is_opinion k_is_opinion
  have b_is_opinion := U_is_opinion.binds (ps := ["thing"]) fun _ _ _ _ _ _ us hl => by obtain ⟨_, rfl⟩ := args1_of us hl; rfl
  have U_is_tie := fun_mk (st := s_is_tie) l_is_tie c_is_tie k_is_tie
  have b_is_tie := U_is_tie.binds (ps := ["many", "thing"]) fun _ _ _ _ _ _ us hl => by obtain ⟨_, _, rfl⟩ := args2_of us hl; rfl
  have U_neighbours := fun_mk (st := s_neighbours) l_neighbours c_neighbours k_neighbours
  have b_neighbours := U_neighbours.binds (ps := ["many", "ties"]) fun _ _ _ _ _ _ us hl => by obtain ⟨_, _, rfl⟩ := args2_of us hl; rfl
  have U_bars_told := fun_mk (st := s_bars_told) l_bars_told c_bars_told k_bars_told
  have b_bars_told := U_bars_told.binds (ps := ["near", "bars"]) fun _ _ _ _ _ _ us hl => by obtain ⟨_, _, rfl⟩ := args2_of us hl; rfl
  have U_stays_told := fun_mk (st := s_stays_told) l_stays_told c_stays_told k_stays_told
  have b_stays_told := U_stays_told.binds (ps := ["many", "stays"]) fun _ _ _ _ _ _ us hl => by obtain ⟨_, _, rfl⟩ := args2_of us hl; rfl
  have U_web_of := fun_mk (st := s_web_of) l_web_of c_web_of k_web_of
  have b_web_of := U_web_of.binds (ps := ["many", "ties", "bars", "stays"]) fun _ _ _ _ _ _ us hl => by obtain ⟨_, _, _, _, rfl⟩ := args4_of us hl; rfl
  have U_many_of := fun_mk (st := s_many_of) l_many_of c_many_of k_many_of
  have b_many_of := U_many_of.binds (ps := ["web"]) fun _ _ _ _ _ _ us hl => by obtain ⟨_, rfl⟩ := args1_of us hl; rfl
  have U_ties_of := fun_mk (st := s_ties_of) l_ties_of c_ties_of k_ties_of
  have b_ties_of := U_ties_of.binds (ps := ["web", "person"]) fun _ _ _ _ _ _ us hl => by obtain ⟨_, _, rfl⟩ := args2_of us hl; rfl
  have U_bar_of := fun_mk (st := s_bar_of) l_bar_of c_bar_of k_bar_of
  have b_bar_of := U_bar_of.binds (ps := ["web", "person"]) fun _ _ _ _ _ _ us hl => by obtain ⟨_, _, rfl⟩ := args2_of us hl; rfl
  have U_stay_of := fun_mk (st := s_stay_of) l_stay_of c_stay_of k_stay_of
  have b_stay_of := U_stay_of.binds (ps := ["web", "person"]) fun _ _ _ _ _ _ us hl => by obtain ⟨_, _, rfl⟩ := args2_of us hl; rfl
  have U_stays_of := fun_mk (st := s_stays_of) l_stays_of c_stays_of k_stays_of
  have b_stays_of := U_stays_of.binds (ps := ["web"]) fun _ _ _ _ _ _ us hl => by obtain ⟨_, rfl⟩ := args1_of us hl; rfl
  have U_fits := fun_mk (st := s_fits) l_fits c_fits k_fits
  have b_fits := U_fits.binds (ps := ["web", "thing"]) fun _ _ _ _ _ _ us hl => by obtain ⟨_, _, rfl⟩ := args2_of us hl; rfl
  have U_check_stand := fun_mk (st := s_check_stand) l_check_stand c_check_stand k_check_stand
  have b_check_stand := U_check_stand.binds (ps := ["web", "thing"]) fun _ _ _ _ _ _ us hl => by obtain ⟨_, _, rfl⟩ := args2_of us hl; rfl
  have U_pull_at := fun_mk (st := s_pull_at) l_pull_at c_pull_at k_pull_at
  have b_pull_at := U_pull_at.binds (ps := ["web", "stand", "person"]) fun _ _ _ _ _ _ us hl => by obtain ⟨_, _, _, rfl⟩ := args3_of us hl; rfl
  have U_next_at := fun_mk (st := s_next_at) l_next_at c_next_at k_next_at
  have b_next_at := U_next_at.binds (ps := ["web", "stand", "person"]) fun _ _ _ _ _ _ us hl => by obtain ⟨_, _, _, rfl⟩ := args3_of us hl; rfl
  have U_turn_at := fun_mk (st := s_turn_at) l_turn_at c_turn_at k_turn_at
  have b_turn_at := U_turn_at.binds (ps := ["web", "stand"]) fun _ _ _ _ _ _ us hl => by obtain ⟨_, _, rfl⟩ := args2_of us hl; rfl
  have U_history := fun_mk (st := s_history) l_history c_history k_history
  have b_history := U_history.binds (ps := ["web", "stand", "turns"]) fun _ _ _ _ _ _ us hl => by obtain ⟨_, _, _, rfl⟩ := args3_of us hl; rfl
  have U_ended := fun_mk (st := s_ended) l_ended c_ended k_ended
  have b_ended := U_ended.binds (ps := ["web", "stand"]) fun _ _ _ _ _ _ us hl => by obtain ⟨_, _, rfl⟩ := args2_of us hl; rfl
  have U_is_rest := fun_mk (st := s_is_rest) l_is_rest c_is_rest k_is_rest
  have b_is_rest := U_is_rest.binds (ps := ["web", "stand"]) fun _ _ _ _ _ _ us hl => by obtain ⟨_, _, rfl⟩ := args2_of us hl; rfl
  have U_end_of := fun_mk (st := s_end_of) l_end_of c_end_of k_end_of
  have b_end_of := U_end_of.binds (ps := ["web", "stand"]) fun _ _ _ _ _ _ us hl => by obtain ⟨_, _, rfl⟩ := args2_of us hl; rfl
  have U_stand_of_all := fun_mk (st := s_stand_of_all) l_stand_of_all c_stand_of_all k_stand_of_all
  have b_stand_of_all := U_stand_of_all.binds (ps := ["web", "opinion"]) fun _ _ _ _ _ _ us hl => by obtain ⟨_, _, rfl⟩ := args2_of us hl; rfl
  have U_least_rest := fun_mk (st := s_least_rest) l_least_rest c_least_rest k_least_rest
  have b_least_rest := U_least_rest.binds (ps := ["web"]) fun _ _ _ _ _ _ us hl => by obtain ⟨_, rfl⟩ := args1_of us hl; rfl
  have U_greatest_rest := fun_mk (st := s_greatest_rest) l_greatest_rest c_greatest_rest k_greatest_rest
  have b_greatest_rest := U_greatest_rest.binds (ps := ["web"]) fun _ _ _ _ _ _ us hl => by obtain ⟨_, rfl⟩ := args1_of us hl; rfl
  have U_check_rests := fun_mk (st := s_check_rests) l_check_rests c_check_rests k_check_rests
  have b_check_rests := U_check_rests.binds (ps := ["web", "one", "other"]) fun _ _ _ _ _ _ us hl => by obtain ⟨_, _, _, rfl⟩ := args3_of us hl; rfl
  have U_joined := fun_mk (st := s_joined) l_joined c_joined k_joined
  have b_joined := U_joined.binds (ps := ["web", "one", "other"]) fun _ _ _ _ _ _ us hl => by obtain ⟨_, _, _, rfl⟩ := args3_of us hl; rfl
  have U_met := fun_mk (st := s_met) l_met c_met k_met
  have b_met := U_met.binds (ps := ["web", "one", "other"]) fun _ _ _ _ _ _ us hl => by obtain ⟨_, _, _, rfl⟩ := args3_of us hl; rfl
  have U__law_cell := fun_mk (st := s__law_cell) l__law_cell c__law_cell k__law_cell
  have b__law_cell := U__law_cell.binds (ps := ["_law_script", "_law_k"]) fun _ _ _ _ _ _ us hl => by obtain ⟨_, _, rfl⟩ := args2_of us hl; rfl
  have U__law_row := fun_mk (st := s__law_row) l__law_row c__law_row k__law_row
  have b__law_row := U__law_row.binds (ps := ["_law_cell_here", "_law_way", "_law_many", "_law_base"]) fun _ _ _ _ _ _ us hl => by obtain ⟨_, _, _, _, rfl⟩ := args4_of us hl; rfl
  have U__law_model := fun_mk (st := s__law_model) l__law_model c__law_model k__law_model
  have b__law_model := U__law_model.binds (ps := ["_law_script", "_law_most"]) fun _ _ _ _ _ _ us hl => by obtain ⟨_, _, rfl⟩ := args2_of us hl; rfl
  have U__law_lines := fun_mk (st := s__law_lines) l__law_lines c__law_lines k__law_lines
  have b__law_lines := U__law_lines.binds (ps := ["_law_model_here"]) fun _ _ _ _ _ _ us hl => by obtain ⟨_, rfl⟩ := args1_of us hl; rfl
  have U__law_turn := fun_mk (st := s__law_turn) l__law_turn c__law_turn k__law_turn
  have b__law_turn := U__law_turn.binds (ps := ["_law_model_here", "_law_stand"]) fun _ _ _ _ _ _ us hl => by obtain ⟨_, _, rfl⟩ := args2_of us hl; rfl
  have U__law_fitting := fun_mk (st := s__law_fitting) l__law_fitting c__law_fitting k__law_fitting
  have b__law_fitting := U__law_fitting.binds (ps := ["_law_model_here", "_law_some"]) fun _ _ _ _ _ _ us hl => by obtain ⟨_, _, rfl⟩ := args2_of us hl; rfl
  have U__law_made := fun_mk (st := s__law_made) l__law_made c__law_made k__law_made
  have b__law_made := U__law_made.binds (ps := ["_law_model_here"]) fun _ _ _ _ _ _ us hl => by obtain ⟨_, rfl⟩ := args1_of us hl; rfl
  have U__law_below := fun_mk (st := s__law_below) l__law_below c__law_below k__law_below
  have b__law_below := U__law_below.binds (ps := ["_law_one", "_law_other"]) fun _ _ _ _ _ _ us hl => by obtain ⟨_, _, rfl⟩ := args2_of us hl; rfl
  have U__law_far := fun_mk (st := s__law_far) l__law_far c__law_far k__law_far
  have b__law_far := U__law_far.binds (ps := ["_law_model_here", "_law_held"]) fun _ _ _ _ _ _ us hl => by obtain ⟨_, _, rfl⟩ := args2_of us hl; rfl
  have U__law_calm := fun_mk (st := s__law_calm) l__law_calm c__law_calm k__law_calm
  have b__law_calm := U__law_calm.binds (ps := ["_law_model_here", "_law_stand"]) fun _ _ _ _ _ _ us hl => by obtain ⟨_, _, rfl⟩ := args2_of us hl; rfl
  have U__law_bounds_right := fun_mk (st := s__law_bounds_right) l__law_bounds_right c__law_bounds_right k__law_bounds_right
  have b__law_bounds_right := U__law_bounds_right.binds (ps := ["_law_model_here", "_law_web", "_law_one", "_law_other"]) fun _ _ _ _ _ _ us hl => by obtain ⟨_, _, _, _, rfl⟩ := args4_of us hl; rfl
  have U_law := fun_mk (st := s_law) l_law c_law k_law
  refine ⟨PySem.W.fnOf "law" "law" (defArgs s_law) (defBody s_law) (defScope s_law) .none kV_law dc_law pm_law an_law cd_law ct_law, fun s v => .of_eq rfl, fun base _ _ => ?_⟩
  have D_is_whole : Def l.prog w K mg base "is_whole" 1 1 F_is_whole := Def.mk' (PySem.W.mg_of X G a_is_whole) k_is_whole b_is_whole (ok_is_whole (P := l.prog) (w := w) (base := base) U_is_whole m_isinstance m_bool m_int)
  have D_is_between : Def l.prog w K mg base "is_between" 2 3 F_is_between := Def.mk' (PySem.W.mg_of X G a_is_between) k_is_between b_is_between (ok_is_between (P := l.prog) (w := w) (base := base) U_is_between D_is_whole)
  have D_is_opinion : Def l.prog w K mg base "is_opinion" 3 1 F_is_opinion := Def.mk' (PySem.W.mg_of X G a_is_opinion) k_is_opinion b_is_opinion (ok_is_opinion (P := l.prog) (w := w) (base := base) U_is_opinion D_is_between)
  have D_is_tie : Def l.prog w K mg base "is_tie" 3 2 F_is_tie := Def.mk' (PySem.W.mg_of X G a_is_tie) k_is_tie b_is_tie (ok_is_tie (P := l.prog) (w := w) (base := base) U_is_tie m_len m_isinstance m_tuple g_MOST_WEIGHT D_is_between)
  have D_neighbours : Def l.prog w K mg base "neighbours" 4 2 F_neighbours := Def.mk' (PySem.W.mg_of X G a_neighbours) k_neighbours b_neighbours (ok_neighbours (P := l.prog) (w := w) (base := base) U_neighbours m_range m_isinstance m_list D_is_tie)
  have D_bars_told : Def l.prog w K mg base "bars_told" 2 2 F_bars_told := Def.mk' (PySem.W.mg_of X G a_bars_told) k_bars_told b_bars_told (ok_bars_told (P := l.prog) (w := w) (base := base) U_bars_told m_tuple m_all m_len m_isinstance m_list D_is_whole)
  have D_stays_told : Def l.prog w K mg base "stays_told" 4 2 F_stays_told := Def.mk' (PySem.W.mg_of X G a_stays_told) k_stays_told b_stays_told (ok_stays_told (P := l.prog) (w := w) (base := base) U_stays_told m_tuple m_all m_len m_isinstance m_list m_range D_is_opinion)
  have D_web_of : Def l.prog w K mg base "web_of" 5 4 F_web_of := Def.mk' (PySem.W.mg_of X G a_web_of) k_web_of b_web_of (ok_web_of (P := l.prog) (w := w) (base := base) U_web_of m_tuple m_sorted g_MOST_PEOPLE D_stays_told D_bars_told D_neighbours D_is_between)
  have D_many_of : Def l.prog w K mg base "many_of" 1 1 F_many_of := Def.mk' (PySem.W.mg_of X G a_many_of) k_many_of b_many_of (ok_many_of (P := l.prog) (w := w) (base := base) U_many_of m_len)
  have D_ties_of : Def l.prog w K mg base "ties_of" 1 2 F_ties_of := Def.mk' (PySem.W.mg_of X G a_ties_of) k_ties_of b_ties_of (ok_ties_of (P := l.prog) (w := w) (base := base) U_ties_of)
  have D_bar_of : Def l.prog w K mg base "bar_of" 1 2 F_bar_of := Def.mk' (PySem.W.mg_of X G a_bar_of) k_bar_of b_bar_of (ok_bar_of (P := l.prog) (w := w) (base := base) U_bar_of)
  have D_stay_of : Def l.prog w K mg base "stay_of" 1 2 F_stay_of := Def.mk' (PySem.W.mg_of X G a_stay_of) k_stay_of b_stay_of (ok_stay_of (P := l.prog) (w := w) (base := base) U_stay_of)
  have D_stays_of : Def l.prog w K mg base "stays_of" 1 1 F_stays_of := Def.mk' (PySem.W.mg_of X G a_stays_of) k_stays_of b_stays_of (ok_stays_of (P := l.prog) (w := w) (base := base) U_stays_of m_list)
  have D_fits : Def l.prog w K mg base "fits" 4 2 F_fits := Def.mk' (PySem.W.mg_of X G a_fits) k_fits b_fits (ok_fits (P := l.prog) (w := w) (base := base) U_fits m_enumerate m_len m_isinstance m_tuple D_stay_of D_is_opinion D_many_of)
  have D_check_stand : Def l.prog w K mg base "check_stand" 5 2 F_check_stand := Def.mk' (PySem.W.mg_of X G a_check_stand) k_check_stand b_check_stand (ok_check_stand (P := l.prog) (w := w) (base := base) U_check_stand D_fits)
  have D_pull_at : Def l.prog w K mg base "pull_at" 2 3 F_pull_at := Def.mk' (PySem.W.mg_of X G a_pull_at) k_pull_at b_pull_at (ok_pull_at (P := l.prog) (w := w) (base := base) U_pull_at m_sum D_ties_of)
  have D_next_at : Def l.prog w K mg base "next_at" 3 3 F_next_at := Def.mk' (PySem.W.mg_of X G a_next_at) k_next_at b_next_at (ok_next_at (P := l.prog) (w := w) (base := base) U_next_at D_bar_of D_pull_at D_stay_of)
  have D_turn_at : Def l.prog w K mg base "turn_at" 4 2 F_turn_at := Def.mk' (PySem.W.mg_of X G a_turn_at) k_turn_at b_turn_at (ok_turn_at (P := l.prog) (w := w) (base := base) U_turn_at m_tuple m_range D_many_of D_next_at)
  have D_history : Def l.prog w K mg base "history" 6 3 F_history := Def.mk' (PySem.W.mg_of X G a_history) k_history b_history (ok_history (P := l.prog) (w := w) (base := base) U_history m_range g_MOST_TURNS D_turn_at D_check_stand)
  have D_ended : Def l.prog w K mg base "ended" 6 2 F_ended := Def.mk' (PySem.W.mg_of X G a_ended) k_ended b_ended (ok_ended (P := l.prog) (w := w) (base := base) U_ended m_len D_turn_at D_check_stand)
  have D_is_rest : Def l.prog w K mg base "is_rest" 6 2 F_is_rest := Def.mk' (PySem.W.mg_of X G a_is_rest) k_is_rest b_is_rest (ok_is_rest (P := l.prog) (w := w) (base := base) U_is_rest D_turn_at D_check_stand)
  have D_end_of : Def l.prog w K mg base "end_of" 7 2 F_end_of := Def.mk' (PySem.W.mg_of X G a_end_of) k_end_of b_end_of (ok_end_of (P := l.prog) (w := w) (base := base) U_end_of D_ended)
  have D_stand_of_all : Def l.prog w K mg base "stand_of_all" 2 2 F_stand_of_all := Def.mk' (PySem.W.mg_of X G a_stand_of_all) k_stand_of_all b_stand_of_all (ok_stand_of_all (P := l.prog) (w := w) (base := base) U_stand_of_all m_tuple D_stays_of)
  have D_least_rest : Def l.prog w K mg base "least_rest" 8 1 F_least_rest := Def.mk' (PySem.W.mg_of X G a_least_rest) k_least_rest b_least_rest (ok_least_rest (P := l.prog) (w := w) (base := base) U_least_rest D_end_of D_stand_of_all)
  have D_greatest_rest : Def l.prog w K mg base "greatest_rest" 8 1 F_greatest_rest := Def.mk' (PySem.W.mg_of X G a_greatest_rest) k_greatest_rest b_greatest_rest (ok_greatest_rest (P := l.prog) (w := w) (base := base) U_greatest_rest D_end_of D_stand_of_all)
  have D_check_rests : Def l.prog w K mg base "check_rests" 7 3 F_check_rests := Def.mk' (PySem.W.mg_of X G a_check_rests) k_check_rests b_check_rests (ok_check_rests (P := l.prog) (w := w) (base := base) U_check_rests D_is_rest D_check_stand)
  have D_joined : Def l.prog w K mg base "joined" 8 3 F_joined := Def.mk' (PySem.W.mg_of X G a_joined) k_joined b_joined (ok_joined (P := l.prog) (w := w) (base := base) U_joined m_tuple m_zip m_max D_end_of D_check_rests)
  have D_met : Def l.prog w K mg base "met" 8 3 F_met := Def.mk' (PySem.W.mg_of X G a_met) k_met b_met (ok_met (P := l.prog) (w := w) (base := base) U_met m_tuple m_zip m_min D_end_of D_check_rests)
  have D__law_cell : Def l.prog w K mg base "_law_cell" 1 2 F_l_cell := Def.mk' (PySem.W.mg_of X G a__law_cell) k__law_cell b__law_cell (ok__law_cell (P := l.prog) (w := w) (base := base) U__law_cell m_len)
  have D__law_row : Def l.prog w K mg base "_law_row" 1 4 F_l_row := Def.mk' (PySem.W.mg_of X G a__law_row) k__law_row b__law_row (ok__law_row (P := l.prog) (w := w) (base := base) U__law_row m_range)
  have D__law_model : Def l.prog w K mg base "_law_model" 2 2 F_l_model := Def.mk' (PySem.W.mg_of X G a__law_model) k__law_model b__law_model (ok__law_model (P := l.prog) (w := w) (base := base) U__law_model m_range m_sum m_max D__law_row D__law_cell)
  have D__law_lines : Def l.prog w K mg base "_law_lines" 1 1 F_l_lines := Def.mk' (PySem.W.mg_of X G a__law_lines) k__law_lines b__law_lines (ok__law_lines (P := l.prog) (w := w) (base := base) U__law_lines m_range m_len)
  have D__law_turn : Def l.prog w K mg base "_law_turn" 1 2 F_l_turn := Def.mk' (PySem.W.mg_of X G a__law_turn) k__law_turn b__law_turn (ok__law_turn (P := l.prog) (w := w) (base := base) U__law_turn m_tuple m_range m_len m_sum)
  have D__law_fitting : Def l.prog w K mg base "_law_fitting" 1 2 F_l_fitting := Def.mk' (PySem.W.mg_of X G a__law_fitting) k__law_fitting b__law_fitting (ok__law_fitting (P := l.prog) (w := w) (base := base) U__law_fitting m_tuple m_range m_len)
  have D__law_made : Def l.prog w K mg base "_law_made" 6 1 F_l_made := Def.mk' (PySem.W.mg_of X G a__law_made) k__law_made b__law_made (ok__law_made (P := l.prog) (w := w) (base := base) U__law_made m_list m_len D_web_of D__law_lines)
  have D__law_below : Def l.prog w K mg base "_law_below" 1 2 F_l_below := Def.mk' (PySem.W.mg_of X G a__law_below) k__law_below b__law_below (ok__law_below (P := l.prog) (w := w) (base := base) U__law_below m_range m_len)
  have D__law_far : Def l.prog w K mg base "_law_far" 2 2 F_l_far := Def.mk' (PySem.W.mg_of X G a__law_far) k__law_far b__law_far (ok__law_far (P := l.prog) (w := w) (base := base) U__law_far m_len D__law_turn D__law_fitting)
  have D__law_calm : Def l.prog w K mg base "_law_calm" 2 2 F_l_calm := Def.mk' (PySem.W.mg_of X G a__law_calm) k__law_calm b__law_calm (ok__law_calm (P := l.prog) (w := w) (base := base) U__law_calm m_range D__law_turn)
  have D__law_bounds_right : Def l.prog w K mg base "_law_bounds_right" 9 4 F_l_bounds_right := Def.mk' (PySem.W.mg_of X G a__law_bounds_right) k__law_bounds_right b__law_bounds_right (ok__law_bounds_right (P := l.prog) (w := w) (base := base) U__law_bounds_right m_tuple m_range m_len m_min m_max D_met D_joined D__law_calm)
  exact ok_law (P := l.prog) (w := w) (base := base) U_law m_int m_range m_max m_len D_met D_joined D__law_bounds_right D__law_calm D__law_fitting D_ended D__law_below D_history D__law_far D_greatest_rest D_least_rest D__law_row D__law_cell D__law_made D__law_model
end Fm
set_option Elab.async false
set_option linter.all false
set_option maxRecDepth 100000
open PySem PySem.W PyProof.Rows
set_option maxRecDepth 100000 in
set_option maxHeartbeats 0 in
theorem PySem.Challenge.cw_followmost_k25_whole_all_between_holds : PySem.Challenge.rw_followmost_k25_whole_all_between.Holds := by
  w_on; o_law; k_head; (case hw => w_witness2)
  k_fill
  refine Fm.walkF (l := PySem.Challenge.rw_followmost_k25_whole_all_between) (F := Fm.F_law) (k := 10) (x := "_law_script") rfl rfl ⟨rfl, by decide, by decide, rfl⟩ (fun w h Y => PySem.W.kIn_of Y) ?F Fm.law_ok
  case F =>
    intro w mg fa h KX G hmg
    refine' Fm.all_mk KX G hmg ?a_is_whole ?l_is_whole ?c_is_whole ?k_is_whole ?a_is_between ?l_is_between ?c_is_between ?k_is_between ?a_is_opinion ?l_is_opinion ?c_is_opinion ?k_is_opinion ?a_is_tie ?l_is_tie ?c_is_tie ?k_is_tie ?a_neighbours ?l_neighbours ?c_neighbours ?k_neighbours ?a_bars_told ?l_bars_told ?c_bars_told ?k_bars_told ?a_stays_told ?l_stays_told ?c_stays_told ?k_stays_told ?a_web_of ?l_web_of ?c_web_of ?k_web_of ?a_many_of ?l_many_of ?c_many_of ?k_many_of ?a_ties_of ?l_ties_of ?c_ties_of ?k_ties_of ?a_bar_of ?l_bar_of ?c_bar_of ?k_bar_of ?a_stay_of ?l_stay_of ?c_stay_of ?k_stay_of ?a_stays_of ?l_stays_of ?c_stays_of ?k_stays_of ?a_fits ?l_fits ?c_fits ?k_fits ?a_check_stand ?l_check_stand ?c_check_stand ?k_check_stand ?a_pull_at ?l_pull_at ?c_pull_at ?k_pull_at ?a_next_at ?l_next_at ?c_next_at ?k_next_at ?a_turn_at ?l_turn_at ?c_turn_at ?k_turn_at ?a_history ?l_history ?c_history ?k_history ?a_ended ?l_ended ?c_ended ?k_ended ?a_is_rest ?l_is_rest ?c_is_rest ?k_is_rest ?a_end_of ?l_end_of ?c_end_of ?k_end_of ?a_stand_of_all ?l_stand_of_all ?c_stand_of_all ?k_stand_of_all ?a_least_rest ?l_least_rest ?c_least_rest ?k_least_rest ?a_greatest_rest ?l_greatest_rest ?c_greatest_rest ?k_greatest_rest ?a_check_rests ?l_check_rests ?c_check_rests ?k_check_rests ?a_joined ?l_joined ?c_joined ?k_joined ?a_met ?l_met ?c_met ?k_met ?a__law_cell ?l__law_cell ?c__law_cell ?k__law_cell ?a__law_row ?l__law_row ?c__law_row ?k__law_row ?a__law_model ?l__law_model ?c__law_model ?k__law_model ?a__law_lines ?l__law_lines ?c__law_lines ?k__law_lines ?a__law_turn ?l__law_turn ?c__law_turn ?k__law_turn ?a__law_fitting ?l__law_fitting ?c__law_fitting ?k__law_fitting ?a__law_made ?l__law_made ?c__law_made ?k__law_made ?a__law_below ?l__law_below ?c__law_below ?k__law_below ?a__law_far ?l__law_far ?c__law_far ?k__law_far ?a__law_calm ?l__law_calm ?c__law_calm ?k__law_calm ?a__law_bounds_right ?l__law_bounds_right ?c__law_bounds_right ?k__law_bounds_right ?a_law ?l_law ?c_law ?k_law ?z_isinstance ?z_bool ?z_int ?z_len ?z_tuple ?z_range ?z_list ?z_all ?z_sorted ?z_enumerate ?z_sum ?z_zip ?z_max ?z_min ?z_MOST_WEIGHT ?z_MOST_PEOPLE ?z_MOST_TURNS
    (case a_is_whole => k_is)
    (case l_is_whole => k_is)
    (case c_is_whole => k_is)
    (case k_is_whole => k_is)
    (case a_is_between => k_is)
    (case l_is_between => k_is)
    (case c_is_between => k_is)
    (case k_is_between => k_is)
    (case a_is_opinion => k_is)
    (case l_is_opinion => k_is)
    (case c_is_opinion => k_is)
    (case k_is_opinion => k_is)
    (case a_is_tie => k_is)
    (case l_is_tie => k_is)
    (case c_is_tie => k_is)
    (case k_is_tie => k_is)
    (case a_neighbours => k_is)
    (case l_neighbours => k_is)
    (case c_neighbours => k_is)
    (case k_neighbours => k_is)
    (case a_bars_told => k_is)
    (case l_bars_told => k_is)
    (case c_bars_told => k_is)
    (case k_bars_told => k_is)
    (case a_stays_told => k_is)
    (case l_stays_told => k_is)
    (case c_stays_told => k_is)
    (case k_stays_told => k_is)
    (case a_web_of => k_is)
    (case l_web_of => k_is)
    (case c_web_of => k_is)
    (case k_web_of => k_is)
    (case a_many_of => k_is)
    (case l_many_of => k_is)
    (case c_many_of => k_is)
    (case k_many_of => k_is)
    (case a_ties_of => k_is)
    (case l_ties_of => k_is)
    (case c_ties_of => k_is)
    (case k_ties_of => k_is)
    (case a_bar_of => k_is)
    (case l_bar_of => k_is)
    (case c_bar_of => k_is)
    (case k_bar_of => k_is)
    (case a_stay_of => k_is)
    (case l_stay_of => k_is)
    (case c_stay_of => k_is)
    (case k_stay_of => k_is)
    (case a_stays_of => k_is)
    (case l_stays_of => k_is)
    (case c_stays_of => k_is)
    (case k_stays_of => k_is)
    (case a_fits => k_is)
    (case l_fits => k_is)
    (case c_fits => k_is)
    (case k_fits => k_is)
    (case a_check_stand => k_is)
    (case l_check_stand => k_is)
    (case c_check_stand => k_is)
    (case k_check_stand => k_is)
    (case a_pull_at => k_is)
    (case l_pull_at => k_is)
    (case c_pull_at => k_is)
    (case k_pull_at => k_is)
    (case a_next_at => k_is)
    (case l_next_at => k_is)
    (case c_next_at => k_is)
    (case k_next_at => k_is)
    (case a_turn_at => k_is)
    (case l_turn_at => k_is)
    (case c_turn_at => k_is)
    (case k_turn_at => k_is)
    (case a_history => k_is)
    (case l_history => k_is)
    (case c_history => k_is)
    (case k_history => k_is)
    (case a_ended => k_is)
    (case l_ended => k_is)
    (case c_ended => k_is)
    (case k_ended => k_is)
    (case a_is_rest => k_is)
    (case l_is_rest => k_is)
    (case c_is_rest => k_is)
    (case k_is_rest => k_is)
    (case a_end_of => k_is)
    (case l_end_of => k_is)
    (case c_end_of => k_is)
    (case k_end_of => k_is)
    (case a_stand_of_all => k_is)
    (case l_stand_of_all => k_is)
    (case c_stand_of_all => k_is)
    (case k_stand_of_all => k_is)
    (case a_least_rest => k_is)
    (case l_least_rest => k_is)
    (case c_least_rest => k_is)
    (case k_least_rest => k_is)
    (case a_greatest_rest => k_is)
    (case l_greatest_rest => k_is)
    (case c_greatest_rest => k_is)
    (case k_greatest_rest => k_is)
    (case a_check_rests => k_is)
    (case l_check_rests => k_is)
    (case c_check_rests => k_is)
    (case k_check_rests => k_is)
    (case a_joined => k_is)
    (case l_joined => k_is)
    (case c_joined => k_is)
    (case k_joined => k_is)
    (case a_met => k_is)
    (case l_met => k_is)
    (case c_met => k_is)
    (case k_met => k_is)
    (case a__law_cell => k_is)
    (case l__law_cell => k_is)
    (case c__law_cell => k_is)
    (case k__law_cell => k_is)
    (case a__law_row => k_is)
    (case l__law_row => k_is)
    (case c__law_row => k_is)
    (case k__law_row => k_is)
    (case a__law_model => k_is)
    (case l__law_model => k_is)
    (case c__law_model => k_is)
    (case k__law_model => k_is)
    (case a__law_lines => k_is)
    (case l__law_lines => k_is)
    (case c__law_lines => k_is)
    (case k__law_lines => k_is)
    (case a__law_turn => k_is)
    (case l__law_turn => k_is)
    (case c__law_turn => k_is)
    (case k__law_turn => k_is)
    (case a__law_fitting => k_is)
    (case l__law_fitting => k_is)
    (case c__law_fitting => k_is)
    (case k__law_fitting => k_is)
    (case a__law_made => k_is)
    (case l__law_made => k_is)
    (case c__law_made => k_is)
    (case k__law_made => k_is)
    (case a__law_below => k_is)
    (case l__law_below => k_is)
    (case c__law_below => k_is)
    (case k__law_below => k_is)
    (case a__law_far => k_is)
    (case l__law_far => k_is)
    (case c__law_far => k_is)
    (case k__law_far => k_is)
    (case a__law_calm => k_is)
    (case l__law_calm => k_is)
    (case c__law_calm => k_is)
    (case k__law_calm => k_is)
    (case a__law_bounds_right => k_is)
    (case l__law_bounds_right => k_is)
    (case c__law_bounds_right => k_is)
    (case k__law_bounds_right => k_is)
    (case a_law => k_is)
    (case l_law => k_is)
    (case c_law => k_is)
    (case k_law => k_is)
    (case z_isinstance => k_is)
    (case z_bool => k_is)
    (case z_int => k_is)
    (case z_len => k_is)
    (case z_tuple => k_is)
    (case z_range => k_is)
    (case z_list => k_is)
    (case z_all => k_is)
    (case z_sorted => k_is)
    (case z_enumerate => k_is)
    (case z_sum => k_is)
    (case z_zip => k_is)
    (case z_max => k_is)
    (case z_min => k_is)
    (case z_MOST_WEIGHT => k_is)
    (case z_MOST_PEOPLE => k_is)
    (case z_MOST_TURNS => k_is)
