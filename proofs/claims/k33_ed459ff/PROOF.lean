import PyProof.Rows.All
import Wide.All
import OpenK.AllK
import Wide.FinOn
import Lean
import PyProof.EqAt
import PyProof.EqKinds
import PyProof.TupleCall
import PyProof.NeKinds
import PyProof.IsInstanceH
import PyProof.IsiNone
import PyProof.EnumMake
import PyProof.Draws
import PyProof.ZipIter
import PyProof.ListRange
import PyProof.SetKind
import PyProof.Rows.SetFrom
import PyProof.FactsAll.set
import PyProof.DictIter
import KE.KDictList
import PySem.Challenge.RW_followmost_k33_whole_more_people_turn_al
set_option Elab.async false
set_option linter.all false
set_option maxRecDepth 100000
namespace L2
open PySem PySem.Spec PyProof.Rows
abbrev Key:=Sum Int Str
def HH:Key→Value→Bool
  | .inl k,v=>Value.isInt k v
  | .inr x,v=>Value.isStrOf x v
def KQ (w:World):Key→Int
  | .inl k=>hashInt k
  | .inr x=>hashStr w x
theorem cB:∀ {k:Key} {v:Value},HH k v=true→(∃ i t,k=Sum.inl i∧v=Value.int i t)∨(∃ x t,k=Sum.inr x∧v=Value.str x t)
  | .inl i,v,h=>by
    obtain⟨t,e⟩:=Value.isInt_shape (k:=i) (v:=v) h
    exact .inl ⟨i,t,rfl,e⟩
  | .inr x,v,h=>by
    obtain⟨t,e⟩:=Value.isStrOf_shape (x:=x) (v:=v) h
    exact .inr ⟨x,t,rfl,e⟩
theorem HX (a b:Int):decide ((Sum.inl a:Key)=Sum.inl b)=(a == b):=by
  by_cases e:a=b
  · subst e;simp
  · have h : ¬ (Sum.inl a:Key)=Sum.inl b:=fun q=>e (Sum.inl.inj q)
    rw [decide_eq_false h]
    exact (beq_eq_false_iff_ne.mpr e).symm
theorem HY (a b:Str):decide ((Sum.inr a:Key)=Sum.inr b)=decide (a=b):=by
  by_cases e:a=b
  · subst e;simp
  · have h : ¬ (Sum.inr a:Key)=Sum.inr b:=fun q=>e (Sum.inr.inj q)
    rw [decide_eq_false h,decide_eq_false e]
theorem HZ (a:Int)(b:Str):decide ((Sum.inl a:Key)=Sum.inr b)=false:=decide_eq_false (fun q=>nomatch q)
theorem Ia (a:Str)(b:Int):decide ((Sum.inr a:Key)=Sum.inl b)=false:=decide_eq_false (fun q=>nomatch q)
def AW (prog:Program) (w:World):PySem.KeyKind prog w Key where
  is:=HH
  hash:=KQ w
  inj:=fun v a b ha hb=>by
    rcases cB ha with ⟨i,t,rfl,rfl⟩|⟨x,t,rfl,rfl⟩
    · rcases cB hb with ⟨j,u,rfl,e⟩|⟨y,u,rfl,e⟩
      · injection e with e1 _;rw [e1]
      · exact nomatch e
    · rcases cB hb with ⟨j,u,rfl,e⟩|⟨y,u,rfl,e⟩
      · exact nomatch e
      · injection e with e1 _;rw [e1]
  byValue:=fun k v h=>by
    rcases cB h with ⟨i,t,rfl,rfl⟩|⟨x,t,rfl,rfl⟩<;>rfl
  pyHash:=fun hv h=>by
    rcases cB hv with ⟨i,t,rfl,rfl⟩|⟨x,t,rfl,rfl⟩
    · exact wpAny_pyHash_int h
    · exact wpAny_pyHash_str h
  eqBool:=fun hu hv h=>by
    rcases cB hu with ⟨i,t,rfl,rfl⟩|⟨x,t,rfl,rfl⟩
    · rcases cB hv with ⟨j,u,rfl,rfl⟩|⟨y,u,rfl,rfl⟩
      · rw [HX] at h;exact wpAny_eqBool_int h
      · rw [HZ] at h;exact SeqAt.EqAt.int_str i t y u _ _ _ _ h
    · rcases cB hv with ⟨j,u,rfl,rfl⟩|⟨y,u,rfl,rfl⟩
      · rw [Ia] at h;exact SeqAt.EqAt.str_int x t j u _ _ _ _ h
      · rw [HY] at h;exact wpAny_eqBool_str h
  «strs» := fun k x t v h=>by
    rcases cB h with ⟨i,u,rfl,e⟩|⟨y,u,rfl,e⟩
    · exact nomatch e
    · injection e with e1 _
      subst e1
      cases v<;>rfl
end L2
namespace L2
open PySem PySem.Spec PyProof.Rows
inductive V where
  | non|bl (b:Bool)|int (i:Int)|str (x:Str)|byt (b:Array UInt8)|flt (b:UInt64)|ref (a:Addr)|ty (n:String)
  deriving DecidableEq
def bS:V→Value→Prop
  | .non,u=>u=Value.none
  | .bl b,u=>u=Value.bool b
  | .int i,u=>∃ t,u=Value.int i t
  | .str x,u=>∃ t,u=Value.str x t
  | .byt b,u=>∃ t,u=Value.bytes b t
  | .flt b,u=>∃ t,u=Value.float b t
  | .ref a,u=>u=Value.ref a
  | .ty n,u=>u=Value.type n
abbrev aS:List V→List Value→Prop:=Paired bS
theorem aS.length {xs:List V}{us:List Value}(r:aS xs us):xs.length=us.length:=Paired.length r
theorem aS.get:∀ {xs:List V} {us:List Value} {i:Nat} {x:V},aS xs us→xs[i]? = some x → ∃ u,us[i]? = some u∧bS x u
  | _,_,_,_,.nil,e=>by simp at e
  | _,_,0,_,.cons r _,e=>by simp at e;subst e;exact⟨_,rfl,r⟩
  | _,_,i + 1,x,.cons _ t,e=>by
    obtain⟨u,h1,h2⟩:=aS.get (i:=i) (x:=x) t (by simpa using e)
    exact⟨u,by simpa using h1,h2⟩
theorem aS.set {x:V}{u:Value}(r:bS x u):∀ {xs:List V} {us:List Value} (i:Nat),aS xs us→aS (xs.set i x) (us.set i u)
  | _,_,_,.nil=>.nil
  | _,_,0,.cons _ t=>.cons r t
  | _,_,i + 1,.cons q t=>.cons q (aS.set r i t)
theorem aS.append:∀ {xs ys:List V} {us ws:List Value},aS xs us→aS ys ws→aS (xs++ys) (us++ws)
  | _,_,_,_,.nil,s=>s
  | _,_,_,_,.cons r t,s=>.cons r (aS.append t s)
theorem aS.take:∀ {xs:List V} {us:List Value} (n:Nat),aS xs us→aS (xs.take n) (us.take n)
  | _,_,0,_=>.nil
  | _,_,_ + 1,.nil=>.nil
  | _,_,n + 1,.cons r t=>.cons r (aS.take n t)
theorem aS.drop:∀ {xs:List V} {us:List Value} (n:Nat),aS xs us→aS (xs.drop n) (us.drop n)
  | _,_,0,r=>r
  | _,_,_ + 1,.nil=>.nil
  | _,_,n + 1,.cons _ t=>aS.drop n t
def JP:Option V→Option Value→Prop
  | some v,some u=>bS v u
  | none,none=>True
  | _,_=>False
def KV {κ : Type}:List (κ × V)→List (κ × Value)→Prop:=Paired fun (p : κ × V) (q : κ × Value)=>p.1=q.1∧bS p.2 q.2
def kV:Key→V
  | .inl i=>.int i
  | .inr x=>.str x
inductive HO where
    | lst (xs:List V)
    | tup (xs:List V)
    | dK (kvs:List (Key × V))|dT (kvs:List (List Key × V))
    | set (S:Int→Bool) (n:Nat)
    | ins (C dx:Addr) (fs:List (Str × V))
    | own (x:Addr)
    | xd (fs:List (Str × V))
    | met (f x:Addr)
    | rng (lo hi:Int)
    | frz (o:Obj) (u:HO)
    | tbl (ps:Array Value)
    | ext (φ : Heap→Prop)
abbrev Hp:=Addr→Option HO
def upd (H:Hp) (a:Addr) (o:HO):Hp:=fun b=>if b=a then some o else H b
theorem bi {H:Hp}{a:Addr}{o:HO}:upd H a o a=some o:=by unfold upd;rw [if_pos rfl]
theorem aB {H:Hp}{a b:Addr}{o:HO}(h:b≠a):upd H a o b=H b:=by unfold upd;rw [if_neg h]
theorem aC {H:Hp}{a b:Addr}{o:HO}(h:H a=some o)(h':H b=none):a≠b:=by
  intro e;subst e;rw [h] at h';cases h'
def kc (h:Heap) (a:Addr) (items:Array Value):Prop:=IsTup h a items ∧ ∃ o,h.get? a=some o∧o.dict=none
theorem kc.new (h:Heap) (items:Array Value):kc (h.push { cls:=.type "tuple",data:=.seq items }) h.objs.size items:=⟨IsTup.new h items,_,Heap.get?_push_size _ rfl,rfl⟩
section
variable (P:Program) (w:World)
def fR (H:Hp) (h:Heap) (a:Addr):HO→Prop
  | .lst xs=>xs.length≤sizeLine ∧ ∃ (its:List Value) (n:Nat),aS xs its∧h.get? a=some { cls:=.type "list",data:=.seq its.toArray n }
  | .tup xs=>xs.length≤sizeLine ∧ ∃ its:List Value,aS xs its∧kc h a its.toArray
  | .dK kvs=>kvs.length≤sizeLine∧(a == sysModules)=false ∧ ∃ vs,KV kvs vs∧h.DictOf (AW P w) a vs
  | .dT kvs=>kvs.length≤sizeLine∧(a == sysModules)=false ∧ ∃ xs:List (List Key × Addr × Value),
      Paired (fun (p:List Key × V) (q:List Key × Addr × Value)=>p.1=q.1∧H q.2.1=some (.tup (p.1.map kV))∧bS p.2 q.2.2) kvs xs ∧
      ∃ o es ep,h.get? a=some o∧o.ExactDict∧o.data=.dict es ep∧es.toList=xs.map (entryOfKey (tupleKind (AW P w)))∧(xs.map (·.1)).Nodup
  | .set S n=>h.SetOf (intKind P w) a S n
  | .ins C dx fs=>H dx=some (.own a)∧fs.length≤1000∧dx≠a∧h.get? a=some (PySem.W.instObj C dx) ∧
      ∃ mA,h.Ns1 dx mA∧(∀ f,JP (fs.lookup f) (mA f))∧PySem.Within mA (fs.map (·.1))
  | .own _=>∃ o,h.get? a=some o
  | .xd fs=>∃ mA,h.Ns1 a mA ∧ ∀ f,JP (fs.lookup f) (mA f)
  | .rng lo hi=>∃ t u v,h.get? a=some { cls:=.type "range",data:=.fields #[.int lo t,.int hi u,.int 1 v] }
  | .frz o u=>h.get? a=some o∧fR H h a u
  | .tbl ps=>h.get? a=some { cls:=.none,data:=.fields ps }
  | .met f x=>h.get? a=some (PySem.W.methodObj (.ref f) (.ref x))
  | .ext φ => φ h∧(∃ o,h.get? a=some o) ∧ ∀ h1 h2:Heap,φ h1→(∀ o,h1.get? a=some o→h2.get? a=some o) → φ h2
def HOk (H:Hp) (h:Heap):Prop:=∀ a o,H a=some o→fR P w H h a o
end
section
variable {P:Program} {w:World} {H H':Hp} {h h':Heap} {a:Addr} {o:HO}
theorem fR.lt (x:fR P w H h a o):a < h.objs.size:=by
  cases o with
  | lst xs=>obtain⟨_,_,_,_,e⟩:=x;exact Heap.lt_size e
  | tup xs=>obtain⟨_,_,_,p⟩:=x;exact p.1.lt
  | dK kvs=>obtain⟨_,_,_,_,o,_,_,e,_⟩:=x;exact Heap.lt_size e
  | dT kvs=>obtain⟨_,_,_,_,o,_,_,e,_⟩:=x;exact Heap.lt_size e
  | set S n=>obtain⟨o,_,_,_,e,_⟩:=x;exact Heap.lt_size e
  | ins C dx fs=>obtain⟨_,_,_,e,_⟩:=x;exact Heap.lt_size e
  | own y=>obtain⟨_,e⟩:=x;exact Heap.lt_size e
  | xd fs=>obtain⟨_,⟨_,_,_,e,_⟩,_⟩:=x;exact Heap.lt_size e
  | rng lo hi=>obtain⟨_,_,_,e⟩:=x;exact Heap.lt_size e
  | frz ob u=>obtain⟨e,_⟩:=x;exact Heap.lt_size e
  | tbl ps=>exact Heap.lt_size (show h.get? a=some _ from x)
  | met f y=>exact Heap.lt_size (show h.get? a=some _ from x)
  | ext φ => obtain⟨_,⟨_,e⟩,_⟩:=x;exact Heap.lt_size e
theorem Paired.mapP {α β : Type}{F G : α → β → Prop}:∀ {l₁ : List α} {l₂ : List β},Paired F l₁ l₂ → (∀ a b,F a b→G a b)→Paired G l₁ l₂
  | _,_,.nil,_=>.nil
  | _,_,.cons r t,f=>.cons (f _ _ r) (Paired.mapP t f)
theorem fR.stay (x:fR P w H h a o)(k:∀ b u,(b=a∨H b=some (.own a))→h.get? b=some u→h'.get? b=some u)
    (ho:∀ b,H b=some (.own a)→H' b=some (.own a)) (ht:∀ b xs,H b=some (.tup xs)→H' b=some (.tup xs)):fR P w H' h' a o:=by
  induction o with
  | lst xs=>obtain⟨z,its,n,r,e⟩:=x;exact⟨z,its,n,r,k _ _ (.inl rfl) e⟩
  | tup xs=>obtain⟨z,its,r,⟨ob,e,c⟩,o2,e2,c2⟩:=x;exact⟨z,its,r,⟨ob,k _ _ (.inl rfl) e,c⟩,o2,k _ _ (.inl rfl) e2,c2⟩
  | dK kvs=>obtain⟨z,y,vs,r,ob,es,ep,e,c⟩:=x;exact⟨z,y,vs,r,ob,es,ep,k _ _ (.inl rfl) e,c⟩
  | dT kvs =>
    obtain⟨z,y,xs,r,ob,es,ep,e,c⟩:=x
    exact⟨z,y,xs,Paired.mapP r fun p q z=>⟨z.1,ht _ _ z.2.1,z.2.2⟩,ob,es,ep,k _ _ (.inl rfl) e,c⟩
  | set S n=>obtain⟨ob,es,ep,t,e,c⟩:=x;exact⟨ob,es,ep,t,k _ _ (.inl rfl) e,c⟩
  | ins C dx fs =>
    obtain⟨d,z,ne,e,mA,⟨od,es,ep,e2,c⟩,r⟩:=x
    exact⟨ho _ d,z,ne,k _ _ (.inl rfl) e,mA,⟨od,es,ep,k _ _ (.inr d) e2,c⟩,r⟩
  | own y=>obtain⟨ob,e⟩:=x;exact⟨ob,k _ _ (.inl rfl) e⟩
  | xd fs=>obtain⟨mA,⟨od,es,ep,e,c⟩,r⟩:=x;exact⟨mA,⟨od,es,ep,k _ _ (.inl rfl) e,c⟩,r⟩
  | rng lo hi=>obtain⟨t,u,v,e⟩:=x;exact⟨t,u,v,k _ _ (.inl rfl) e⟩
  | frz ob u ih=>obtain⟨e,q⟩:=x;exact⟨k _ _ (.inl rfl) e,ih q⟩
  | tbl ps =>
    have e:h.get? a=some { cls:=.none,data:=.fields ps }:=x
    show h'.get? a=some { cls:=.none,data:=.fields ps }
    exact k a _ (.inl rfl) e
  | met f y =>
    have e:h.get? a=some (PySem.W.methodObj (.ref f) (.ref y)):=x
    show h'.get? a=some (PySem.W.methodObj (.ref f) (.ref y))
    exact k a _ (.inl rfl) e
  | ext φ => obtain⟨p,⟨o,e⟩,st⟩:=x;exact⟨st _ _ p fun o q=>k _ _ (.inl rfl) q,⟨o,k _ _ (.inl rfl) e⟩,st⟩
theorem HOk.lt (x:HOk P w H h)(e:H a=some o):a < h.objs.size:=(x a o e).lt
theorem HOk.fresh (x:HOk P w H h)(e:h.objs.size≤a):H a=none:=by
  cases q:H a with
  | none=>rfl
  | some u=>exact absurd (Nat.lt_of_lt_of_le (x.lt q) e) (Nat.lt_irrefl _)
theorem HOk.kept (x:HOk P w H h)(k:∀ b u,h.get? b=some u→h'.get? b=some u):HOk P w H h':=fun a o e =>
  (x a o e).stay (fun b u _ q=>k b u q) (fun _ q=>q) fun _ _ q=>q
theorem HOk.laid (x:HOk P w H h)(k:∀ b u,h.get? b=some u→h'.get? b=some u)(hp:h.objs.size≤a)(new:fR P w (upd H a o) h' a o):HOk P w (upd H a o) h':=fun b u e=>by
  have hn:=x.fresh hp
  by_cases hb:b=a
  · subst hb;rw [bi] at e;cases e;exact new
  · rw [aB hb] at e
    exact (x b u e).stay (fun c v _ q=>k c v q) (fun c q=>by rw [aB (aC q hn)];exact q) fun c xs q=>by rw [aB (aC q hn)];exact q
end
def Rd (H:Hp) (a:Addr) (u:HO):Prop:=H a=some u ∨ ∃ o,H a=some (.frz o u)
theorem Rd.ok {P:Program}{w:World}{H:Hp}{h:Heap}{a:Addr}{u:HO}(r:Rd H a u)(x:HOk P w H h):fR P w H h a u:=by
  rcases r with r|⟨o,r⟩
  · exact x a u r
  · obtain⟨_,q⟩:=x a _ r
    exact q
def Mut:Option HO→Prop
  | some (.lst _)=>True
  | some (.dK _)=>True
  | some (.dT _)=>True
  | some (.set _ _)=>True
  | some (.ins _ _ _)=>True
  | some (.ext _)=>True
  | _=>False
section
variable {P:Program} {w:World} {H:Hp} {h h':Heap} {x e:Addr} {o':HO}
theorem HOk.write (ok:HOk P w H h)(mu:Mut (H x))(he:e=x∨H e=some (.own x))(k:∀ b u,b≠e→h.get? b=some u→h'.get? b=some u)(heo:∃ u,h'.get? e=some u)
    (new:fR P w (upd H x o') h' x o'):HOk P w (upd H x o') h':=fun b u q=>by
  have nown:∀ c y,H c=some (.own y)→c≠x:=fun c y r z=>by subst z;rw [r] at mu;exact mu
  have ntup:∀ c xs,H c=some (.tup xs)→c≠x:=fun c xs r z=>by subst z;rw [r] at mu;exact mu
  by_cases hb:b=x
  · subst hb;rw [bi] at q;cases q;exact new
  · rw [aB hb] at q
    by_cases hbe:b=e
    · have q':H b=some (.own x):=by
        rcases he with z|z
        · exact absurd (hbe.trans z) hb
        · rw [hbe];exact z
      rw [q] at q';cases q'
      obtain⟨v,hv⟩:=heo
      exact⟨v,by rw [hbe];exact hv⟩
    · refine (ok b u q).stay (fun c v hc r=>k c v ?_ r) (fun c r=>by rw [aB (nown c b r)];exact r) fun c xs r=>by rw [aB (ntup c xs r)];exact r
      rcases hc with rfl|hc
      · exact hbe
      · rintro rfl
        rcases he with z|z
        · exact nown c b hc z
        · rw [hc] at z;cases z;exact hb rfl
end
structure Un (fs ex:List Addr) (H H':Hp) (h h':Heap):Prop where
  keep:∀ b o,h.get? b=some o→H b=none→b∉fs→b∉ex→h'.get? b=some o
  slot:∀ b o,h.get? b=some o→H b=none→b∈fs→b∉ex → ∃ sl,h'.get? b=some { o with slots:=sl }
  free:∀ b o,h.get? b=some o→H b=none→b∉ex→H' b=none
  there:∀ b o,h.get? b=some o→b∉ex → ∃ o',h'.get? b=some o'
  tups:∀ b xs,H b=some (.tup xs)→H' b=some (.tup xs)
  frzs:∀ b o u,H b=some (.frz o u)→H' b=some (.frz o u)
  tbls:∀ b ps,H b=some (.tbl ps) → ∃ more,H' b=some (.tbl (ps++more))
section
variable {fs fs' ex ex':List Addr} {H H1 H2:Hp} {h h1 h2 h':Heap} {a x e:Addr} {o:HO}
theorem Un.any (u:Un fs ex H H1 h h1){b:Addr}{ob:Obj}(q:h.get? b=some ob)(n:H b=none)(hx:b∉ex):∃ sl,h1.get? b=some { ob with slots:=sl }:=by
  by_cases hb:b∈fs
  · exact u.slot b ob q n hb hx
  · exact⟨ob.slots,u.keep b ob q n hb hx⟩
theorem Un.kept (k:∀ b u,h.get? b=some u→h'.get? b=some u):Un fs ex H H h h' :=
  ⟨fun b ob q _ _ _=>k b ob q,fun b ob q _ _ _=>⟨ob.slots,k b ob q⟩,fun _ _ _ n _=>n,fun b ob q _=>⟨ob,k b ob q⟩,fun _ _ q=>q,fun _ _ _ q=>q,fun _ ps q=>⟨#[],by rw [q];simp⟩⟩
theorem Un.refl:Un fs ex H H h h:=Un.kept fun _ _ q=>q
theorem Un.laid (k:∀ b u,h.get? b=some u→h'.get? b=some u)(hp:h.objs.size≤a)(hn:H a=none):Un fs ex H (upd H a o) h h' where
  keep:=fun b u q _ _ _=>k b u q
  slot:=fun b u q _ _ _=>⟨u.slots,k b u q⟩
  free:=fun b u q n _=>by rw [aB (Nat.ne_of_lt (Nat.lt_of_lt_of_le (Heap.lt_size q) hp))];exact n
  there:=fun b u q _=>⟨u,k b u q⟩
  tups:=fun b xs q=>by rw [aB (aC q hn)];exact q
  frzs:=fun b u xs q=>by rw [aB (aC q hn)];exact q
  tbls:=fun b ps q=>⟨#[],by rw [aB (aC q hn),q];simp⟩
theorem Un.write (mu:Mut (H x))(he:e=x∨H e=some (.own x))(k:∀ b u,b≠e→h.get? b=some u→h'.get? b=some u)(heo:∃ u,h'.get? e=some u):Un fs ex H (upd H x o) h h':=by
  have hx:∀ b,H b=none→b≠x:=fun b n z=>by subst z;rw [n] at mu;exact mu
  have hb:∀ b,H b=none→b≠e:=fun b n z=>by
    subst z
    rcases he with r|r
    · exact hx b n r
    · rw [n] at r;cases r
  have hm:∀ b u,H b=some u → ¬ Mut (some u)→b≠x:=fun b u q nm z=>by subst z;rw [q] at mu;exact nm mu
  refine⟨fun b u q n _ _=>k b u (hb b n) q,fun b u q n _ _=>⟨u.slots,k b u (hb b n) q⟩,fun b u q n _=>by rw [aB (hx b n)];exact n,fun b u q _ => ?_,
    fun b xs q=>by rw [aB (hm b _ q fun z=>z)];exact q,fun b u xs q=>by rw [aB (hm b _ q fun z=>z)];exact q,fun b ps q=>⟨#[],by rw [aB (hm b _ q fun z=>z),q];simp⟩⟩
  by_cases hbe:b=e
  · subst hbe;exact heo
  · exact⟨u,k b u hbe q⟩
end
def trk (h:Heap) (H:Hp):List Addr:=(List.range h.objs.size).filter fun a=>(H a).isSome
def tG (h:Heap) (H:Hp):Heap:=PySem.W.hideAll h (trk h H)
theorem BL (h:Heap)(H:Hp):(tG h H).objs.size=h.objs.size:=PySem.W.hideAll_size _ _
theorem Do {h:Heap}{H:Hp}{b:Addr}{o:Obj}(e:h.get? b=some o)(n:H b=none):(tG h H).get? b=some o :=
  PySem.W.hideAll_get _ e fun hm=>by
    have q:(H b).isSome=true:=(List.mem_filter.mp hm).2
    rw [n] at q;simp at q
theorem FM {h:Heap}{H:Hp}{b:Addr}{o:Obj}(e:(tG h H).get? b=some o):h.get? b=some o∧H b=none:=by
  have e':h.get? b=some o:=PySem.W.of_hideAll (trk h H) e
  refine⟨e',?_⟩
  cases q:H b with
  | none=>rfl
  | some x =>
    have hm:b∈trk h H:=List.mem_filter.mpr ⟨List.mem_range.mpr (Heap.lt_size e'),by simp [q]⟩
    have z:(tG h H).get? b=none:=PySem.W.hideAll_none (trk h H) hm
    rw [z] at e;cases e
def FN (g h:Heap) (L:Addr):List (Addr × Obj):=(List.range h.objs.size).filterMap fun a=>if a=L∨(g.get? a).isSome=true then none else (h.get? a).map fun o=>(a,o)
def rest (g h:Heap) (L d:Addr):List (Addr × Obj):=(FN g h L).filter fun p=>decide (p.1≠d)
end L2
namespace L2
open PySem PySem.Spec PyProof.Rows
structure Mod (K:PySem.W.Frag) (mg:Str→Option Value) (base:Heap):Prop where
  kin:K.In base
  glob:base.Ns mainGlobals mg
  blt:∃ mb,base.Ns builtinsNs mb ∧ ∀ x:Str,x ≠ "__name__" → mb x=bootBuiltins x
  nolimit:base.NoLimit
structure Cx where
  prog:Program
  w:World
  K:PySem.W.Frag
  mg:Str→Option Value
  base:Heap
  A:Around
  N:List Str
  s₀ : Shared
  H₀ : Hp
  env:Env
  outer:List Env
  stack:List Env
  ex:List Addr
  fn:Str→Bool
  calm:Bool
  pn:List (Addr × Obj)
  xe:Value→Shared→Prop
def frs (l:List Env):List Addr:=l.filterMap (·.frame)
abbrev Cx.fs (X:Cx):List Addr:=frs X.outer
def Vis (sc:Scope) (x:Str):Prop:=sc.names.lookup x=some .local ∨sc.names.lookup x=some .cell∨sc.names.lookup x=some .free
def Loc (sc:Scope) (x:Str):Prop:=sc.names.lookup x=some .local ∨sc.names.lookup x=some .cell
def KR (env:Env) (h:Heap) (m:Str→Option Value) (x:Str) (u:Value):Prop :=
  (env.kindOf x=some .local∧m x=some u)∨((env.kindOf x=some .cell∨env.kindOf x=some .free) ∧ ∃ c,env.cells.lookup x=some c∧h.IsCell c (some u))
structure Cx.Ok (X:Cx):Prop where
  mod:Mod X.K X.mg X.base
  kind:X.env.scope.kind=.function
  glob:X.env.globals=mainGlobals
  blt:X.env.builtins=builtinsNs
  above:X.s₀.heap.objs.size≤X.env.locals
  inj:∀ x y c,X.env.cells.lookup x=some c→X.env.cells.lookup y=some c→x=y
  has:∀ x,(X.env.kindOf x=some .cell∨X.env.kindOf x=some .free) → ∃ c,X.env.cells.lookup x=some c
  cab:∀ x c,X.fn x=true→X.env.cells.lookup x=some c→X.s₀.heap.objs.size≤c
  hd:X.calm=true→X.A.handled=none
  frames:X.A.frames=some X.stack
  stk:X.stack=X.outer∨(X.stack=X.env :: X.outer∧X.env.frame=some X.env.locals)
  exf:∀ b∈X.ex,b≠X.env.locals ∧ ∀ x c,X.env.cells.lookup x=some c→c≠b
  bs:∀ b o,X.base.get? b=some o→X.s₀.heap.get? b=some o∧X.H₀ b=none
  bsz:X.base.objs.size≤X.s₀.heap.objs.size
  noex:∀ b o,X.base.get? b=some o→b∉X.ex
  exfs:∀ b∈X.ex,b∉X.fs
  funs:X.s₀.heap.FunFrames X.base X.outer
  frf:∀ b∈X.fs,X.H₀ b=none
structure Inv (X:Cx) (pins:List (Addr × Obj)) (σ:List (Option V)) (H:Hp) (s:Shared):Prop where
  ok:X.Ok
  os:s.os=X.s₀.os
  bare:AllBare s.gens
  base:Un X.fs X.ex X.H₀ H X.s₀.heap s.heap
  loc:∃ m,s.heap.Ns X.env.locals m ∧ ∀ (i:Nat) (x:Str) (v:V),X.N[i]? = some x → σ[i]? = some (some v)→Vis X.env.scope x → ∃ u,bS v u∧KR X.env s.heap m x u
  cell:∀ x c,X.env.cells.lookup x=some c → ∃ v,s.heap.IsCell c v
  free:H X.env.locals=none
  freeC:∀ x c,X.env.cells.lookup x=some c→H c=none
  pin:∀ p∈X.pn++pins,s.heap.get? p.1=some p.2∧H p.1=none∧p.1≠X.env.locals∧p.1∉X.fs ∧ ∀ v,p.2.data ≠ .cell v
  hok:HOk X.prog X.w H s.heap
  len : σ.length=X.N.length
section
variable {X:Cx} {pins:List (Addr × Obj)} {σ:List (Option V)} {H H':Hp} {s:Shared} {h':Heap}
theorem Cx.Ok.nofr (ok:X.Ok){b:Addr}{o:Obj}(e:X.base.get? b=some o):b∉X.fs:=fun hb=>by
  have:=(ok.funs.mem hb).1
  rw [e] at this;cases this
theorem Inv.bs (I:Inv X pins σ H s):∀ b o,X.base.get? b=some o→s.heap.get? b=some o∧H b=none:=fun b o e =>
  ⟨I.base.keep b o (I.ok.bs b o e).1 (I.ok.bs b o e).2 (I.ok.nofr e) (I.ok.noex b o e),I.base.free b o (I.ok.bs b o e).1 (I.ok.bs b o e).2 (I.ok.noex b o e)⟩
theorem Inv.bk (I:Inv X pins σ H s):∀ b o,X.base.get? b=some o→s.heap.get? b=some o:=fun b o e=>(I.bs b o e).1
theorem Inv.mod (I:Inv X pins σ H s):Mod X.K X.mg X.base:=I.ok.mod
theorem Inv.kIn (I:Inv X pins σ H s):X.K.In s.heap:=I.ok.mod.kin.keeps I.bk
theorem Inv.lt (I:Inv X pins σ H s):X.env.locals < s.heap.objs.size:=let ⟨_,hn,_⟩:=I.loc;hn.lt
theorem Inv.sz (I:Inv X pins σ H s):X.s₀.heap.objs.size≤s.heap.objs.size:=Nat.le_trans I.ok.above (Nat.le_of_lt I.lt)
theorem Inv.nofs (I:Inv X pins σ H s){a:Addr}(h:s.heap.objs.size≤a):a∉X.fs:=fun hb=>by
  obtain⟨_,o,ho,_⟩:=I.ok.funs.mem hb
  exact absurd (Nat.lt_of_lt_of_le (Heap.lt_size ho) (Nat.le_trans I.sz h)) (Nat.lt_irrefl _)
theorem Inv.cne (I:Inv X pins σ H s):∀ x c,X.env.cells.lookup x=some c→c≠X.env.locals:=fun x c e z=>by
  obtain⟨v,o,ho,hd⟩:=I.cell x c e
  obtain⟨m,⟨o',es,ep,ho',hd',_⟩,_⟩:=I.loc
  rw [z,ho'] at ho;cases ho;rw [hd'] at hd;cases hd
theorem Inv.funs (I:Inv X pins σ H s):s.heap.FunFrames X.base X.outer:=by
  have all:∀ (l:List Env),(∀ b∈frs l,b∈X.fs)→X.s₀.heap.FunFrames X.base l→s.heap.FunFrames X.base l:=by
    intro l
    induction l with
    | nil=>intro _ _;trivial
    | cons env r ih =>
      intro hs hl
      obtain⟨hk,⟨L,o,hf,hn,ho,hd⟩,hr⟩:=hl
      have hL:L∈X.fs:=hs L (by unfold frs;rw [List.filterMap_cons,hf];exact List.mem_cons_self)
      obtain⟨sl,e⟩:=I.base.slot L o ho (I.ok.frf L hL) hL fun z=>I.ok.exfs L z hL
      exact⟨hk,⟨L,_,hf,hn,e,hd⟩,ih (fun b hb=>hs b (by unfold frs;rw [List.filterMap_cons,hf];exact List.mem_cons_of_mem _ hb)) hr⟩
  exact all X.outer (fun _ hb=>hb) I.ok.funs
theorem Inv.stack (I:Inv X pins σ H s):s.heap.FunFrames X.base X.stack:=by
  rcases I.ok.stk with e|⟨e,hf⟩
  · rw [e];exact I.funs
  · rw [e]
    obtain⟨m,hn,_⟩:=I.loc
    refine .cons (by rw [I.ok.kind];decide) hf hn ?_ I.funs
    exact Heap.get?_none_of_le (Nat.le_trans I.ok.bsz I.ok.above)
theorem Inv.stkSub (I:Inv X pins σ H s):∀ b∈frs X.stack,b∈X.env.locals :: X.fs:=fun b hb=>by
  rcases I.ok.stk with e|⟨e,hf⟩
  · rw [e] at hb;exact List.mem_cons_of_mem _ hb
  · rw [e] at hb
    unfold frs at hb
    rw [List.filterMap_cons,hf] at hb
    exact hb
theorem Inv.stkFree (I:Inv X pins σ H s):∀ b∈frs X.stack,H b=none:=fun b hb=>by
  rcases List.mem_cons.mp (I.stkSub b hb) with e|hb
  · rw [e];exact I.free
  · obtain⟨_,o,ho,_⟩:=I.ok.funs.mem hb
    exact I.base.free b o ho (I.ok.frf b hb) fun z=>I.ok.exfs b z hb
theorem Inv.step {g':Array GenState}{t':Nat}{d':Drawn}{ch:List Addr}(I:Inv X pins σ H s)
    (hch:∀ b∈ch,(b∈X.ex∨X.s₀.heap.objs.size≤b)∧b≠X.env.locals∧(∀ x c,X.env.cells.lookup x=some c→c≠b) ∧ ∀ p∈X.pn++pins,p.1≠b)
    (keep:∀ b o,b≠X.env.locals→b∉X.fs→b∉ch→s.heap.get? b=some o→H b=none→h'.get? b=some o)
    (slot:∀ b o,b≠X.env.locals→b∈X.fs→b∉ch→s.heap.get? b=some o→H b=none → ∃ sl,h'.get? b=some { o with slots:=sl }) (free:∀ b o,b∉ch→s.heap.get? b=some o→H b=none→H' b=none)
    (there:∀ b o,b∉ch→s.heap.get? b=some o → ∃ o',h'.get? b=some o')
    (tups:∀ b xs,H b=some (.tup xs)→H' b=some (.tup xs)) (frzs:∀ b o u,H b=some (.frz o u)→H' b=some (.frz o u)) (tbls:∀ b ps,H b=some (.tbl ps) → ∃ more,H' b=some (.tbl (ps++more)))
    (ns:∀ m,s.heap.Ns X.env.locals m→h'.Ns X.env.locals m) (hok:HOk X.prog X.w H' h') (hg:AllBare g') :
    Inv X pins σ H' { s with heap:=h',gens:=g',drawn:=d',toks:=t' }:=by
  have neL:∀ b o,X.s₀.heap.get? b=some o→b≠X.env.locals:=fun b o e=>Nat.ne_of_lt (Nat.lt_of_lt_of_le (Heap.lt_size e) I.ok.above)
  have neC:∀ b o,X.s₀.heap.get? b=some o→b∉X.ex→b∉ch:=fun b o e hx hb=>by
    rcases (hch b hb).1 with z|z
    · exact hx z
    · exact absurd (Nat.lt_of_lt_of_le (Heap.lt_size e) z) (Nat.lt_irrefl _)
  have cellK:∀ x c,X.env.cells.lookup x=some c → ∀ v,s.heap.IsCell c v→h'.IsCell c v:=fun x c e v ⟨o,ho,hd⟩=>by
    have nch:c∉ch:=fun z=>(hch c z).2.2.1 x c e rfl
    by_cases hc:c∈X.fs
    · obtain⟨sl,q⟩:=slot c o (I.cne x c e) hc nch ho (I.freeC x c e)
      exact⟨_,q,hd⟩
    · exact⟨o,keep c o (I.cne x c e) hc nch ho (I.freeC x c e),hd⟩
  refine⟨I.ok,I.os,hg,⟨fun b o e n hb hx => ?_,fun b o e n hb hx => ?_,fun b o e n hx => ?_,fun b o e hx => ?_,fun b xs e=>tups b xs (I.base.tups b xs e),fun b o xs e=>frzs b o xs (I.base.frzs b o xs e),fun b ps e => ?_⟩,?_,fun x c e => ?_,?_,fun x c e => ?_,fun p hp => ?_,hok,I.len⟩
  · exact keep b o (neL b o e) hb (neC b o e hx) (I.base.keep b o e n hb hx) (I.base.free b o e n hx)
  · obtain⟨sl,e1⟩:=I.base.slot b o e n hb hx
    obtain⟨sl',e2⟩:=slot b _ (neL b o e) hb (neC b o e hx) e1 (I.base.free b o e n hx)
    exact⟨sl',e2⟩
  · obtain⟨o',e1⟩:=I.base.there b o e hx
    exact free b o' (neC b o e hx) e1 (I.base.free b o e n hx)
  · obtain⟨o',e1⟩:=I.base.there b o e hx
    exact there b o' (neC b o e hx) e1
  · obtain⟨m1,e1⟩:=I.base.tbls b ps e
    obtain⟨m2,e2⟩:=tbls b _ e1
    exact⟨m1++m2,by rw [e2,Array.append_assoc]⟩
  · obtain⟨m,hn,hl⟩:=I.loc
    refine⟨m,ns m hn,fun i x v e1 e2 e3 => ?_⟩
    obtain⟨u,r,l⟩:=hl i x v e1 e2 e3
    refine⟨u,r,?_⟩
    rcases l with l|⟨k,c,e,z⟩
    · exact .inl l
    · exact .inr ⟨k,c,e,cellK x c e _ z⟩
  · obtain⟨v,z⟩:=I.cell x c e
    exact⟨v,cellK x c e v z⟩
  · obtain⟨m,⟨o,_,_,ho,_⟩,_⟩:=I.loc
    exact free _ o (fun z=>(hch _ z).2.1 rfl) ho I.free
  · obtain⟨v,o,ho,hd⟩:=I.cell x c e
    exact free c o (fun z=>(hch c z).2.2.1 x c e rfl) ho (I.freeC x c e)
  · obtain⟨e,n,ne,nf,d⟩:=I.pin p hp
    have nch:p.1∉ch:=fun z=>(hch p.1 z).2.2.2 p hp rfl
    exact⟨keep p.1 p.2 ne nf nch e n,free p.1 p.2 nch e n,ne,nf,d⟩
theorem Inv.un {t':Nat}(I:Inv X pins σ H s)(u:Un X.fs [] H H' s.heap h')(hok:HOk X.prog X.w H' h'):Inv X pins σ H' { s with heap:=h',toks:=t' }:=by
  obtain⟨m,⟨o,es,ep,ho,r⟩,_⟩:=id I.loc
  obtain⟨sl,hL⟩:=u.any ho I.free (by simp)
  exact I.step (g':=s.gens) (d':=s.drawn) (ch:=[]) (fun _ z=>nomatch z) (fun b o _ hb _ e n=>u.keep b o e n hb (by simp)) (fun b o _ hb _ e n=>u.slot b o e n hb (by simp)) (fun b o _ e n=>u.free b o e n (by simp)) (fun b o _ e=>u.there b o e (by simp)) u.tups u.frzs u.tbls (fun m' hm=>by
    obtain⟨o',es',ep',ho',r'⟩:=hm
    rw [ho] at ho';cases ho'
    exact⟨_,es',ep',hL,r'⟩) hok I.bare
theorem Inv.call {g':Array GenState}{t':Nat}{d':Drawn}{ch:List Addr}(I:Inv X pins σ H s)(u:Un (frs X.stack) ch H H' s.heap h')(hok:HOk X.prog X.w H' h')(hg:AllBare g')
    (hch:∀ b∈ch,(b∈X.ex∨X.s₀.heap.objs.size≤b)∧b≠X.env.locals∧(∀ x c,X.env.cells.lookup x=some c→c≠b) ∧ ∀ p∈X.pn++pins,p.1≠b) :
    Inv X pins σ H' { s with heap:=h',gens:=g',drawn:=d',toks:=t' }:=by
  obtain⟨m,⟨o,es,ep,ho,r⟩,_⟩:=id I.loc
  obtain⟨sl,hL⟩:=u.any ho I.free fun z=>(hch _ z).2.1 rfl
  exact I.step (ch:=ch) hch (fun b o hL hb hc e n=>u.keep b o e n (fun z=>(List.mem_cons.mp (I.stkSub b z)).elim hL hb) hc) (fun b o _ _ hc e n=>u.any e n hc) (fun b o hc e n=>u.free b o e n hc) (fun b o hc e=>u.there b o e hc) u.tups u.frzs u.tbls (fun m' hm=>by
    obtain⟨o',es',ep',ho',r'⟩:=hm
    rw [ho] at ho';cases ho'
    exact⟨_,es',ep',hL,r'⟩) hok hg
theorem Inv.turned {t':Nat}{it:Addr}(I:Inv X pins σ H s)(k:∀ b o,b≠it→s.heap.get? b=some o→h'.get? b=some o)(hn:H it=none)(hL:it≠X.env.locals)
    (h1:it∈X.ex∨X.s₀.heap.objs.size≤it) (h2:∀ x c,X.env.cells.lookup x=some c→c≠it) (h3:∀ p∈X.pn++pins,p.1≠it):Inv X pins σ H { s with heap:=h',toks:=t' }:=by
  have nit:∀ b u,H b=some u→b≠it:=fun b u e z=>by rw [z,hn] at e;cases e
  refine I.step (g':=s.gens) (d':=s.drawn) (ch:=[it]) (fun b hb => ?_) (fun b o _ _ hc e _=>k b o (fun z=>hc (by simp [z])) e) (fun b o _ _ hc e _=>⟨o.slots,k b o (fun z=>hc (by simp [z])) e⟩) (fun _ _ _ _ n=>n)
    (fun b o hc e=>⟨o,k b o (fun z=>hc (by simp [z])) e⟩) (fun _ _ e=>e) (fun _ _ _ e=>e) (fun b ps e=>⟨#[],by rw [e];simp⟩) (fun m hm => ?_) (fun b u e => ?_) I.bare
  · have e:b=it:=by simpa using hb
    subst e
    exact⟨h1,hL,h2,h3⟩
  · obtain⟨o,es,ep,ho,r⟩:=hm
    exact⟨o,es,ep,k _ o (Ne.symm hL) ho,r⟩
  · refine (I.hok b u e).stay (fun c v hc q=>k c v ?_ q) (fun _ q=>q) fun _ _ q=>q
    rcases hc with z|z
    · rw [z];exact nit b u e
    · exact nit c _ z
theorem Inv.tok (I:Inv X pins σ H s)(t:Nat):Inv X pins σ H { s with toks:=t }:=I.un (h':=s.heap) (t':=t) Un.refl I.hok
theorem Inv.kept {t':Nat}(I:Inv X pins σ H s)(k:∀ b u,s.heap.get? b=some u→h'.get? b=some u):Inv X pins σ H { s with heap:=h',toks:=t' }:=I.un (Un.kept k) (I.hok.kept k)
theorem Inv.laid {a:Addr}{o:HO}{t':Nat}(I:Inv X pins σ H s)(k:∀ b u,s.heap.get? b=some u→h'.get? b=some u)(hp:s.heap.objs.size≤a)(new:fR X.prog X.w (upd H a o) h' a o) :
    Inv X pins σ (upd H a o) { s with heap:=h',toks:=t' }:=I.un (Un.laid k hp (I.hok.fresh hp)) (I.hok.laid k hp new)
theorem Inv.write {x e:Addr}{o:HO}{t':Nat}(I:Inv X pins σ H s)(mu:Mut (H x))(he:e=x∨H e=some (.own x))(k:∀ b u,b≠e→s.heap.get? b=some u→h'.get? b=some u)(heo:∃ u,h'.get? e=some u)
    (new:fR X.prog X.w (upd H x o) h' x o):Inv X pins σ (upd H x o) { s with heap:=h',toks:=t' }:=I.un (Un.write mu he k heo) (I.hok.write mu he k heo new)
theorem Inv.pins_of {pins':List (Addr × Obj)}(I:Inv X pins σ H s)(h:∀ p∈pins',s.heap.get? p.1=some p.2∧H p.1=none∧p.1≠X.env.locals∧p.1∉X.fs ∧ ∀ v,p.2.data ≠ .cell v):Inv X pins' σ H s :=
  ⟨I.ok,I.os,I.bare,I.base,I.loc,I.cell,I.free,I.freeC,fun p hp=>(List.mem_append.mp hp).elim (fun z=>I.pin p (List.mem_append_left _ z)) (h p),I.hok,I.len⟩
theorem wc {N:List Str}(hN:N.Nodup){i j:Nat}{x:Str}(a:N[i]? = some x)(b:N[j]? = some x):i=j:=by
  obtain⟨h1,e1⟩:=List.getElem?_eq_some_iff.mp a
  obtain⟨h2,e2⟩:=List.getElem?_eq_some_iff.mp b
  exact (List.getElem_inj hN).mp (e1.trans e2.symm)
theorem rY {M:Model}{A:Around}{E:Value→Shared→Prop}{i:Nat}{x:Str}{v:V}{u:Value}{Q:Unit→Shared→Prop}(I:Inv X pins σ H s)(hN:X.N.Nodup)(hi:X.N[i]? = some x)(hx:Loc X.env.scope x)(r:bS v u)
    (h:∀ s',Inv X pins (σ.set i (some v)) H s'→(∃ a,Heap.SameBut a s.heap s'.heap∧(a=X.env.locals∨X.env.cells.lookup x=some a))→Q () s') (hf:X.fn x=true∨X.env.scope.names.lookup x=some .local:=by first|exact .inl rfl|exact .inr rfl|assumption):wpAny M A (storeName X.env x u) Q E s:=by
  obtain⟨m,hn,hl⟩:=id I.loc
  have hcls:(X.env.scope.kind == .class || (X.env.scope.kind == .module && X.env.locals != X.env.globals))=false:=by rw [I.ok.kind];rfl
  have hiσ:i < σ.length:=by rw [I.len];exact (List.getElem?_eq_some_iff.mp hi).1
  have cne:=I.cne
  have tracked:∀ {a:Addr} {h':Heap},(∃ o,s.heap.get? a=some o∧H a=none)→Heap.SameBut a s.heap h'→HOk X.prog X.w H h':=fun {a h'} ha hs b ob e=>by
    obtain⟨_,_,hfree⟩:=ha
    refine (I.hok b ob e).stay (fun c w' hc q=>(hs.2 c ?_).trans q) (fun _ q=>q) fun _ _ q=>q
    rintro rfl
    rcases hc with rfl|hc
    · rw [hfree] at e;cases e
    · rw [hfree] at hc;cases hc
  rcases hx with hk|hk
  · refine wpAny_storeName_local hk hn (fun h' hn' hs => ?_) hcls
    obtain⟨oL,_,_,hoL,_⟩:=id hn
    refine h _ ⟨I.ok,I.os,I.bare,⟨fun b o e n hb hx => ?_,fun b o e n hb hx => ?_,I.base.free,fun b o e hx => ?_,I.base.tups,I.base.frzs,I.base.tbls⟩,⟨_,hn',fun j y v' e1 e2 e3 => ?_⟩,fun y c e => ?_,I.free,I.freeC,fun p hp => ?_,tracked ⟨oL,hoL,I.free⟩ hs,by simpa using I.len⟩ ⟨_,hs,.inl rfl⟩
    · exact (hs.2 b (Nat.ne_of_lt (Nat.lt_of_lt_of_le (Heap.lt_size e) I.ok.above))).trans (I.base.keep b o e n hb hx)
    · obtain⟨sl,e1⟩:=I.base.slot b o e n hb hx
      exact⟨sl,(hs.2 b (Nat.ne_of_lt (Nat.lt_of_lt_of_le (Heap.lt_size e) I.ok.above))).trans e1⟩
    · obtain⟨o',e1⟩:=I.base.there b o e hx
      exact⟨o',(hs.2 b (Nat.ne_of_lt (Nat.lt_of_lt_of_le (Heap.lt_size e) I.ok.above))).trans e1⟩
    · by_cases hj:j=i
      · subst hj
        rw [hi] at e1;cases e1
        rw [List.getElem?_set_self hiσ] at e2
        cases e2
        exact⟨u,r,.inl ⟨hk,by simp⟩⟩
      · rw [List.getElem?_set_ne (Ne.symm hj)] at e2
        obtain⟨u',r',q⟩:=hl j y v' e1 e2 e3
        refine⟨u',r',?_⟩
        rcases q with ⟨k,e⟩|⟨k,c,e,z⟩
        · refine .inl ⟨k,?_⟩
          have:y≠x:=fun e=>hj (wc hN e1 (e ▸ hi))
          simp [this,e]
        · exact .inr ⟨k,c,e,z.sameBut hs (cne y c e)⟩
    · obtain⟨w',z⟩:=I.cell y c e
      exact⟨w',z.sameBut hs (cne y c e)⟩
    · obtain⟨e,n,ne,nf,d⟩:=I.pin p hp
      exact⟨(hs.2 p.1 ne).trans e,n,ne,nf,d⟩
  · have hfn:X.fn x=true:=by
      rcases hf with z|z
      · exact z
      · rw [z] at hk;cases hk
    obtain⟨c,hc⟩:=I.ok.has x (.inl hk)
    obtain⟨w',z⟩:=I.cell x c hc
    refine wpAny_storeName_cell I.ok.kind hk hc z (fun h' hc' hs => ?_)
    obtain⟨oc,hoc,hocd⟩:=id z
    refine h { s with heap:=h' } ⟨I.ok,I.os,I.bare,⟨fun b o e n hb hx => ?_,fun b o e n hb hx => ?_,I.base.free,fun b o e hx => ?_,I.base.tups,I.base.frzs,I.base.tbls⟩,⟨m,hn.sameBut hs (Ne.symm (cne x c hc)),fun j y v' e1 e2 e3 => ?_⟩,fun y c' e => ?_,I.free,I.freeC,fun p hp => ?_,tracked ⟨oc,hoc,I.freeC x c hc⟩ hs,by simpa using I.len⟩ ⟨c,hs,.inr hc⟩
    · exact (hs.2 b (Nat.ne_of_lt (Nat.lt_of_lt_of_le (Heap.lt_size e) (I.ok.cab x c hfn hc)))).trans (I.base.keep b o e n hb hx)
    · obtain⟨sl,e1⟩:=I.base.slot b o e n hb hx
      exact⟨sl,(hs.2 b (Nat.ne_of_lt (Nat.lt_of_lt_of_le (Heap.lt_size e) (I.ok.cab x c hfn hc)))).trans e1⟩
    · obtain⟨o',e1⟩:=I.base.there b o e hx
      exact⟨o',(hs.2 b (Nat.ne_of_lt (Nat.lt_of_lt_of_le (Heap.lt_size e) (I.ok.cab x c hfn hc)))).trans e1⟩
    · by_cases hj:j=i
      · subst hj
        rw [hi] at e1;cases e1
        rw [List.getElem?_set_self hiσ] at e2
        cases e2
        exact⟨u,r,.inr ⟨.inl hk,c,hc,hc'⟩⟩
      · rw [List.getElem?_set_ne (Ne.symm hj)] at e2
        obtain⟨u',r',q⟩:=hl j y v' e1 e2 e3
        refine⟨u',r',?_⟩
        rcases q with q|⟨k,c',e,z'⟩
        · exact .inl q
        · refine .inr ⟨k,c',e,z'.sameBut hs ?_⟩
          rintro rfl
          exact hj (wc hN e1 (I.ok.inj _ _ _ e hc ▸ hi))
    · by_cases hcc:c'=c
      · subst hcc;exact⟨_,hc'⟩
      · obtain⟨w2,z2⟩:=I.cell y c' e
        exact⟨w2,z2.sameBut hs hcc⟩
    · obtain⟨e,n,ne,nf,d⟩:=I.pin p hp
      refine⟨(hs.2 p.1 ?_).trans e,n,ne,nf,d⟩
      intro q
      rw [q,hoc] at e
      have q':oc=p.2:=Option.some.inj e
      exact d w' (by rw [← q'];exact hocd)
theorem we {M:Model}{A:Around}{E:Value→Shared→Prop}{i:Nat}{x:Str}{v:V}{u:Value}{Q:Unit→Shared→Prop}(I:Inv X pins σ H s)(hN:X.N.Nodup)(hi:X.N[i]? = some x)(hx:Loc X.env.scope x)(r:bS v u)
    (h:∀ s',Inv X pins (σ.set i (some v)) H s'→Q () s') (hf:X.fn x=true∨X.env.scope.names.lookup x=some .local:=by first|exact .inl rfl|exact .inr rfl|assumption):wpAny M A (storeName X.env x u) Q E s :=
  rY I hN hi hx r (fun s' I' _=>h s' I') hf
theorem Inv.call' {s':Shared}{ch:List Addr}(I:Inv X pins σ H s)(ho:s'.os=s.os)(u:Un (frs X.stack) ch H H' s.heap s'.heap)(hok:HOk X.prog X.w H' s'.heap)(hg:AllBare s'.gens)
    (hch:∀ b∈ch,(b∈X.ex∨X.s₀.heap.objs.size≤b)∧b≠X.env.locals∧(∀ x c,X.env.cells.lookup x=some c→c≠b) ∧ ∀ p∈X.pn++pins,p.1≠b):Inv X pins σ H' s':=by
  obtain⟨h',g',d',t',o'⟩:=s'
  have e:o'=s.os:=ho
  subst e
  exact I.call (g':=g') (t':=t') (d':=d') u hok hg hch
end
abbrev XK:=Value→Option Addr→Hp→Prop
abbrev St:=List (Option V)
abbrev VK:=V→Hp→Prop
abbrev TE:=St→Hp→VK→Prop
abbrev TT:=St→Hp→(Bool→Hp→Prop)→Prop
abbrev TA:=St→Hp→(List V→Hp→Prop)→Prop
structure wf where
  nx:St→Hp→Prop
  rt:VK
  bk:St→Hp→Prop:=fun _ _=>False
  ct:St→Hp→Prop:=fun _ _=>False
abbrev TS:=wf→St→Hp→Prop
def EP (X:Cx) (pins:List (Addr × Obj)) (σ:St) (Q:VK) (u:Value) (s':Shared):Prop:=∃ v H',Inv X pins σ H' s'∧bS v u∧Q v H'
def TP (X:Cx) (pins:List (Addr × Obj)) (σ:St) (Q:Bool→Hp→Prop) (b:Bool) (s':Shared):Prop:=∃ H',Inv X pins σ H' s'∧Q b H'
def AP (X:Cx) (pins:List (Addr × Obj)) (σ:St) (Q:List V→Hp→Prop) (us:List Value) (s':Shared):Prop:=∃ vs H',Inv X pins σ H' s'∧aS vs us∧Q vs H'
def SP (X:Cx) (pins:List (Addr × Obj)) (D:wf) (f:Flow) (s':Shared):Prop :=
  match f with
  | .next=>∃ σ' H',Inv X pins σ' H' s'∧D.nx σ' H'
  | .brk=>∃ σ' H',Inv X pins σ' H' s'∧D.bk σ' H'
  | .cont=>∃ σ' H',Inv X pins σ' H' s'∧D.ct σ' H'
  | .ret u=>∃ v σ' H',Inv X pins σ' H' s'∧bS v u∧D.rt v H'
def PE (X:Cx) (e:Expr) (t:TE):Prop :=
  ∀ (pins:List (Addr × Obj)) (s:Shared) (σ:St) (H:Hp) (Q:VK),Inv X pins σ H s→t σ H Q→wpAny (model X.prog X.w) X.A (eval e X.env) (EP X pins σ Q) X.xe s
def PT (X:Cx) (e:Expr) (t:TT):Prop :=
  ∀ (pins:List (Addr × Obj)) (s:Shared) (σ:St) (H:Hp) (Q:Bool→Hp→Prop),Inv X pins σ H s→t σ H Q→wpAny (model X.prog X.w) X.A (isTrue e X.env (eval e X.env)) (TP X pins σ Q) X.xe s
def PW (X:Cx) (e:Expr) (t:TT):Prop :=
  ∀ (whole:Sem Value) (pins:List (Addr × Obj)) (s:Shared) (σ:St) (H:Hp) (Q:Bool→Hp→Prop),Inv X pins σ H s→t σ H Q→wpAny (model X.prog X.w) X.A (isTrue e X.env whole) (TP X pins σ Q) X.xe s
theorem PW.pt {X:Cx}{e:Expr}{t:TT}(h:PW X e t):PT X e t:=h _
def PA (X:Cx) (es:List Expr) (t:TA):Prop :=
  ∀ (pos:Pos) (pins:List (Addr × Obj)) (s:Shared) (σ:St) (H:Hp) (Q:List V→Hp→Prop),Inv X pins σ H s→t σ H Q→wpAny (model X.prog X.w) X.A (spliced (backTo pos (starEach es X.env))) (AP X pins σ Q) X.xe s
def PS (X:Cx) (st:Stmt) (t:TS):Prop :=
  ∀ (pins:List (Addr × Obj)) (s:Shared) (σ:St) (H:Hp) (D:wf),Inv X pins σ H s→t D σ H→wpAny (model X.prog X.w) X.A (exec st X.env) (SP X pins D) X.xe s
def PSs (X:Cx) (st:List Stmt) (t:TS):Prop :=
  ∀ (pins:List (Addr × Obj)) (s:Shared) (σ:St) (H:Hp) (D:wf),Inv X pins σ H s→t D σ H→wpAny (model X.prog X.w) X.A (execs st X.env) (SP X pins D) X.xe s
theorem thn {α : Type}{t:Sem α}{Q Q' : α → Shared→Prop}{M:Model}{A:Around}{E:Value→Shared→Prop}{s:Shared}(h:wpAny M A t Q E s)(hQ:∀ a s,Q a s→Q' a s):wpAny M A t Q' E s:=wpAny_mono h hQ fun _ _ x=>x
end L2
namespace L2
open PySem PySem.Spec PyProof.Rows
section
variable {X:Cx}
def KS (i:Nat):TE:=fun σ H Q=>∃ v,σ[i]? = some (some v)∧Q v H
def tC (v:V):TE:=fun _ H Q=>Q v H
theorem Ib {i:Nat} {x:Str} {pos:Pos} (hN:X.N[i]? = some x) (hv:Vis X.env.scope x) (hd:(x == ("__debug__" : Str))=false:=by decide) (hcd:(x == ("__classdict__" : Str))=false:=by decide):PE X (.Name x pos) (KS i):=by
  intro pins s σ H Q I h
  obtain⟨v,e,h⟩:=h
  obtain⟨m,hn,hl⟩:=I.loc
  obtain⟨u,r,l⟩:=hl i x v hN e hv
  have fin:EP X pins σ Q u s:=⟨v,H,I,r,h⟩
  rcases l with ⟨hk,hm⟩|⟨hk,c,hc,hcell⟩
  · exact wpAny_Name (wpAny_loadName_local I.ok.kind hk hn hm fin) hd
  · rcases hk with hk|hk
    · exact wpAny_Name (wpAny_loadName_cell I.ok.kind hk hc hcell fin) hd
    · exact wpAny_Name (wpAny_loadName_free I.ok.kind hk hc hcell fin hcd) hd
theorem Dp {i j pos}:PE X (.Constant (.int i) j pos) (tC (.int i)):=fun _ _ _ H _ I h=>wpAny_Constant_int ⟨.int i,H,I.tok _,⟨_,rfl⟩,h⟩
theorem JQ {b j pos}:PE X (.Constant (.bool b) j pos) (tC (.bl b)):=fun _ _ _ H _ I h=>Constant_bool ⟨.bl b,H,I,rfl,h⟩
theorem Ic {j pos}:PE X (.Constant .none j pos) (tC .non):=fun _ _ _ H _ I h=>Constant_none ⟨.non,H,I,rfl,h⟩
theorem Id {x j pos}:PE X (.Constant (.str x) j pos) (tC (.str x)):=fun _ _ _ H _ I h=>Calls.Constant_str ⟨.str x,H,I.tok _,⟨_,rfl⟩,h⟩
def Gl (X:Cx) (x:Str):Prop:=X.env.kindOf x=some .globalImplicit
theorem FO {E:Value→Shared→Prop}{pins:List (Addr × Obj)}{s:Shared}{σ:St}{H:Hp}{x:Str}{u:Value}{pos:Pos}{Q:Value→Shared→Prop}(I:Inv X pins σ H s)(hg:Gl X x)(hm:X.mg x=some u)(h:Q u s)
    (hd:(x == ("__debug__" : Str))=false:=by decide):wpAny (model X.prog X.w) X.A (eval (.Name x pos) X.env) Q E s :=
  Calls.Name_function_global I.ok.kind hg (Calls.loadGlobal_global (by rw [I.ok.glob];exact I.mod.glob.keeps I.bk) hm h) hd
theorem ke {E:Value→Shared→Prop}{pins:List (Addr × Obj)}{s:Shared}{σ:St}{H:Hp}{x:Str}{u:Value}{pos:Pos}{Q:Value→Shared→Prop}(I:Inv X pins σ H s)(hg:Gl X x)(hm:X.mg x=none)(hv:bootBuiltins x=some u)(h:Q u s)
    (hn:x ≠ "__name__" := by decide) (hd:(x == ("__debug__" : Str))=false:=by decide):wpAny (model X.prog X.w) X.A (eval (.Name x pos) X.env) Q E s:=by
  obtain⟨mb,h1,h2⟩:=I.mod.blt
  exact Calls.Name_function_global I.ok.kind hg (Calls.loadGlobal_builtin (by rw [I.ok.glob];exact I.mod.glob.keeps I.bk) hm (by rw [I.ok.blt];exact h1.keeps I.bk) ((h2 x hn).trans hv) h) hd
theorem FP {x:Str} {v:V} {u:Value} {pos:Pos} (hg:Gl X x) (hm:X.mg x=none) (hv:bootBuiltins x=some u) (r:bS v u) (hn:x ≠ "__name__" := by decide) (hd:(x == ("__debug__" : Str))=false:=by decide):PE X (.Name x pos) (tC v) :=
  fun _ _ _ H _ I h=>ke I hg hm hv ⟨v,H,I,r,h⟩ hn hd
variable {a b:Expr} {ta tb:TE} {pos:Pos}
def tB (t:TE):TT:=fun σ H Q=>t σ H fun x H1=>∃ c,x=.bl c∧Q c H1
theorem Ie {e:Expr}{t:TE}(h:PE X e t)(he:∀ whole,isTrue e X.env whole=(do let v ← whole;standAt e.pos;holding [v] (truthy v)):=by intro _;rfl):PT X e (tB t):=by
  intro pins s σ H Q I hw
  refine isTrue_plain (thn (h pins s σ H _ I hw) fun v s1 ⟨x,H1,I1,r1,q1⟩ => ?_) (he _)
  obtain⟨d,rfl,q⟩:=q1
  cases r1
  exact wpAny_truthy_bool ⟨H1,I1,q⟩
variable {tA tB':TT} {rest:List Expr}
def iX (t u:TT):TT:=fun σ H Q=>t σ H fun c H1=>if c=true then u σ H1 Q else Q false H1
def tOr (t u:TT):TT:=fun σ H Q=>t σ H fun c H1=>if c=true then Q true H1 else u σ H1 Q
def ib (t:TT):TT:=fun σ H Q=>t σ H fun c H1=>Q (!c) H1
theorem FQ (ha:PT X a tA):PW X (.BoolOp .And [a] pos) tA:=by
  intro wh pins s σ H Q I h
  refine isTrue_and (thn (ha pins s σ H Q I h) fun c s1 e => ?_)
  cases c with
  | true=>exact isTrue_and_nil e
  | false=>exact e
theorem Ig (ha:PT X a tA):PW X (.BoolOp .Or [a] pos) tA:=by
  intro wh pins s σ H Q I h
  refine isTrue_or (thn (ha pins s σ H Q I h) fun c s1 e => ?_)
  cases c with
  | false=>exact isTrue_or_nil e
  | true=>exact e
theorem Ih (ha:PT X a tA)(hb:PW X (.BoolOp .And (b :: rest) pos) tB'):PW X (.BoolOp .And (a :: b :: rest) pos) (iX tA tB'):=by
  intro wh pins s σ H Q I h
  refine isTrue_and (thn (ha pins s σ H _ I h) fun c s1 ⟨H1,I1,q1⟩ => ?_)
  cases c with
  | true=>exact hb wh pins s1 σ H1 Q I1 q1
  | false=>exact⟨H1,I1,q1⟩
theorem JR (ha:PT X a tA)(hb:PW X (.BoolOp .Or (b :: rest) pos) tB'):PW X (.BoolOp .Or (a :: b :: rest) pos) (tOr tA tB'):=by
  intro wh pins s σ H Q I h
  refine isTrue_or (thn (ha pins s σ H _ I h) fun c s1 ⟨H1,I1,q1⟩ => ?_)
  cases c with
  | true=>exact⟨H1,I1,q1⟩
  | false=>exact hb wh pins s1 σ H1 Q I1 q1
theorem Ii (ha:PT X a tA):PT X (.UnaryOp .Not a pos) (ib tA):=by
  intro pins s σ H Q I h
  exact isTrue_not (ha pins s σ H (fun c H1=>Q (!c) H1) I h)
def JS (ta tb:TE):TE:=fun σ H Q=>ta σ H fun x H1=>∃ c,x=.bl c∧if c=true then tb σ H1 Q else Q (.bl false) H1
def JT (ta:TE):TE:=fun σ H Q=>ta σ H fun x H1=>∃ c,x=.bl c∧Q (.bl (!c)) H1
theorem Ij {op}{t:TE}(h:PE X a t):PE X (.BoolOp op [a] pos) t:=fun pins s σ H Q I hw=>BoolOp_one (h pins s σ H Q I hw)
theorem Ik (ha:PE X a ta)(hb:PE X (.BoolOp .And (b :: rest) pos) tb):PE X (.BoolOp .And (a :: b :: rest) pos) (JS ta tb):=by
  intro pins s σ H Q I h
  refine BoolOp_and (thn (ha pins s σ H _ I h) fun v s1 ⟨x,H1,I1,r1,q1⟩ => ?_)
  obtain⟨c,rfl,q1⟩:=q1
  cases r1
  refine wpAny_truthy_bool ?_
  cases c with
  | true=>exact hb pins s1 σ H1 Q I1 q1
  | false=>exact⟨.bl false,H1,I1,rfl,q1⟩
theorem Im (ha:PE X a ta):PE X (.UnaryOp .Not a pos) (JT ta):=by
  intro pins s σ H Q I h
  refine UnaryOp_ (thn (ha pins s σ H _ I h) fun v s1 ⟨x,H1,I1,r1,q1⟩ => ?_)
  obtain⟨c,rfl,q1⟩:=q1
  cases r1
  exact not_of (wpAny_truthy_bool ⟨.bl (!c),H1,I1,rfl,q1⟩)
def tIf (t:TT) (ta tb:TE):TE:=fun σ H Q=>t σ H fun c H1=>if c=true then ta σ H1 Q else tb σ H1 Q
theorem Dq {c:Expr}(hc:PT X c tA)(ha:PE X a ta)(hb:PE X b tb):PE X (.IfExp c a b pos) (tIf tA ta tb):=by
  intro pins s σ H Q I h
  refine wpAny_IfExp (thn (hc pins s σ H _ I h) fun d s1 ⟨H1,I1,q1⟩ => ?_)
  cases d with
  | true=>exact ha pins s1 σ H1 Q I1 q1
  | false=>exact hb pins s1 σ H1 Q I1 q1
end
end L2
namespace L2
open PySem PySem.Spec PyProof.Rows
def SqL (K:PySem.W.Frag) (H:Hp) (a:Addr) (xs:List V):Prop :=
  Rd H a (.lst xs) ∨
    ∃ (o:Obj) (its:Array Value) (n:Nat),K.lookup a=some o∧o.cls=.type "list" ∧ o.dict=none∧o.data=.seq its n∧its.size≤sizeLine∧aS xs its.toList
def SqT (K:PySem.W.Frag) (H:Hp) (a:Addr) (xs:List V):Prop :=
  Rd H a (.tup xs) ∨
    ∃ (o:Obj) (its:Array Value) (n:Nat),K.lookup a=some o∧o.cls=.type "tuple" ∧ o.data=.seq its n∧its.size≤sizeLine∧aS xs its.toList
def KT:Value→Option V
  | .none=>some .non
  | .bool b=>some (.bl b)
  | .int i _=>some (.int i)
  | .str x _=>some (.str x)
  | .bytes b _=>some (.byt b)
  | .float b _=>some (.flt b)
  | .ref a=>some (.ref a)
  | .type n=>some (.ty n)
  | _=>none
theorem bS.abs {x:V}{u:Value}(r:bS x u):KT u=some x:=by
  cases x with
  | non=>cases r;rfl
  | bl _=>cases r;rfl
  | int _=>obtain⟨t,rfl⟩:=r;rfl
  | str _=>obtain⟨t,rfl⟩:=r;rfl
  | byt _=>obtain⟨t,rfl⟩:=r;rfl
  | flt _=>obtain⟨t,rfl⟩:=r;rfl
  | ref _=>cases r;rfl
  | ty _=>cases r;rfl
theorem bS.inj {x y:V}{u:Value}(r:bS x u)(q:bS y u):x=y:=Option.some.inj (r.abs.symm.trans q.abs)
theorem aS.inj:∀ {xs ys:List V} {us:List Value},aS xs us→aS ys us→xs=ys
  | _,_,_,.nil,.nil=>rfl
  | _,_,_,.cons r t,.cons r' t'=>by rw [r.inj r',aS.inj t t']
section
variable {X:Cx} {pins:List (Addr × Obj)} {σ:St} {H:Hp} {s:Shared} {a:Addr} {xs ys:List V}
theorem SqL.of {K:PySem.W.Frag}(h:H a=some (.lst xs)):SqL K H a xs:=.inl (.inl h)
theorem SqT.of {K:PySem.W.Frag}(h:H a=some (.tup xs)):SqT K H a xs:=.inl (.inl h)
theorem Inv.list (I:Inv X pins σ H s)(h:SqL X.K H a xs):∃ its:List Value,aS xs its∧PlainL s.heap a its.toArray∧xs.length≤sizeLine:=by
  rcases h with h|⟨o,its,n,hk,hc,hd,hs,hz,r⟩
  · obtain⟨z,its,n,r,e⟩:=h.ok I.hok
    exact⟨its,r,⟨_,n,e,rfl,rfl,rfl⟩,z⟩
  · refine⟨its.toList,r,⟨o,n,I.kIn a o hk,hc,hd,by simpa using hs⟩,?_⟩
    have e:=r.length
    simp only [Array.length_toList] at e
    omega
theorem Inv.tuple (I:Inv X pins σ H s)(h:SqT X.K H a xs):∃ its:List Value,aS xs its∧IsTup s.heap a its.toArray∧xs.length≤sizeLine:=by
  rcases h with h|⟨o,its,n,hk,hc,hs,hz,r⟩
  · obtain⟨z,its,r,p⟩:=h.ok I.hok
    exact⟨its,r,p.1,z⟩
  · refine⟨its.toList,r,⟨o,I.kIn a o hk,hc,n,by simpa using hs⟩,?_⟩
    have e:=r.length
    simp only [Array.length_toList] at e
    omega
theorem Inv.list_inj (I:Inv X pins σ H s)(h:SqL X.K H a xs)(h':SqL X.K H a ys):xs=ys:=by
  obtain⟨its,r,⟨o,n,e,_,_,d⟩,_⟩:=I.list h
  obtain⟨its',r',⟨o',n',e',_,_,d'⟩,_⟩:=I.list h'
  rw [e] at e';cases e'
  rw [d] at d'
  injection d' with d1 _
  have:its=its':=by simpa using congrArg Array.toList d1
  subst this
  exact r.inj r'
theorem Inv.tuple_inj (I:Inv X pins σ H s)(h:SqT X.K H a xs)(h':SqT X.K H a ys):xs=ys:=by
  obtain⟨its,r,⟨o,e,_,n,d⟩,_⟩:=I.tuple h
  obtain⟨its',r',⟨o',e',_,n',d'⟩,_⟩:=I.tuple h'
  rw [e] at e';cases e'
  rw [d] at d'
  injection d' with d1 _
  have:its=its':=by simpa using congrArg Array.toList d1
  subst this
  exact r.inj r'
end
abbrev Cx.wish (X:Cx) (E:Value→Shared→Prop):Cx:={ X with xe:=E }
abbrev Cx.nox (X:Cx):Cx:=X.wish fun _ _=>False
theorem Cx.Ok.wish {X:Cx}(ok:X.Ok)(E:Value→Shared→Prop):(X.wish E).Ok :=
  ⟨ok.mod,ok.kind,ok.glob,ok.blt,ok.above,ok.inj,ok.has,ok.cab,ok.hd,ok.frames,ok.stk,ok.exf,ok.bs,ok.bsz,ok.noex,ok.exfs,ok.funs,ok.frf⟩
theorem Cx.Ok.unwish {X:Cx}{E:Value→Shared→Prop}(ok:(X.wish E).Ok):X.Ok :=
  ⟨ok.mod,ok.kind,ok.glob,ok.blt,ok.above,ok.inj,ok.has,ok.cab,ok.hd,ok.frames,ok.stk,ok.exf,ok.bs,ok.bsz,ok.noex,ok.exfs,ok.funs,ok.frf⟩
section
variable {X:Cx} {pins:List (Addr × Obj)} {σ:St} {H:Hp} {s:Shared} {E:Value→Shared→Prop}
theorem Inv.wish (I:Inv X pins σ H s)(E:Value→Shared→Prop):Inv (X.wish E) pins σ H s:=⟨I.ok.wish E,I.os,I.bare,I.base,I.loc,I.cell,I.free,I.freeC,I.pin,I.hok,I.len⟩
theorem Inv.unwish (I:Inv (X.wish E) pins σ H s):Inv X pins σ H s:=⟨I.ok.unwish,I.os,I.bare,I.base,I.loc,I.cell,I.free,I.freeC,I.pin,I.hok,I.len⟩
theorem SP.unwish {D:wf}{f:Flow}{s':Shared}(h:SP (X.wish E) pins D f s'):SP X pins D f s':=by
  cases f with
  | next=>obtain⟨σ',H',I,q⟩:=h;exact⟨σ',H',I.unwish,q⟩
  | brk=>obtain⟨σ',H',I,q⟩:=h;exact⟨σ',H',I.unwish,q⟩
  | cont=>obtain⟨σ',H',I,q⟩:=h;exact⟨σ',H',I.unwish,q⟩
  | ret u=>obtain⟨v,σ',H',I,r,q⟩:=h;exact⟨v,σ',H',I.unwish,r,q⟩
theorem PSs.nox {st:List Stmt}{t:TS}(h:PSs X.nox st t):PSs X st t:=fun pins s σ H D I hw =>
  wpAny_mono (h pins s σ H D (I.wish _) hw) (fun _ _ q=>q.unwish) fun _ _ z=>False.elim z
end
section
variable {X:Cx} {st:Stmt} {rest:List Stmt} {t u:TS} {e:Expr} {te:TE} {pos:Pos}
def JU:TS:=fun D σ H=>D.nx σ H
def KU (t u:TS):TS:=fun D σ H=>t { D with nx:=u D } σ H
theorem FR:PSs X [] JU:=fun _ _ σ H _ I h=>wpAny_execs_nil ⟨σ,H,I,h⟩
theorem Dr (h1:PS X st t)(h2:PSs X rest u):PSs X (st :: rest) (KU t u):=by
  intro pins s σ H D I h
  refine wpAny_execs_cons (thn (h1 pins s σ H { D with nx:=u D } I h) fun f s1 q => ?_)
  cases f with
  | next =>
    obtain⟨σ',H',I',q⟩:=q
    exact h2 pins s1 σ' H' D I' q
  | ret v=>exact q
  | brk=>exact q
  | cont=>exact q
theorem FS (h1:PS X st t):PSs X [st] t:=by
  intro pins s σ H D I h
  refine wpAny_execs_cons (thn (h1 pins s σ H D I h) fun f s1 q => ?_)
  cases f with
  | next=>exact wpAny_execs_nil q
  | ret v=>exact q
  | brk=>exact q
  | cont=>exact q
theorem Inv.quiet {pins:List (Addr × Obj)}{σ:St}{H:Hp}{s:Shared}(I:Inv X pins σ H s):interactive X.env=false:=by simp [interactive,I.ok.kind]
def JV (te:TE):TS:=fun D σ H=>te σ H fun _ H1=>D.nx σ H1
theorem FT (he:PE X e te)(hs:swapsWith e none pos.line X.env=pure false:=by rfl):PS X (.Expr e pos) (JV te):=by
  intro pins s σ H D I h
  exact wpAny_Expr_any (thn (he pins s σ H _ I h) fun v s1 ⟨x,H1,I1,r1,q1⟩=>⟨σ,H1,I1,q1⟩) I.quiet hs
def KW (te:TE):TS:=fun D σ H=>te σ H D.rt
theorem Io (he:PE X e te):PS X (.Return (some e) pos) (KW te):=by
  intro pins s σ H D I h
  exact wpAny_Return_some (thn (he pins s σ H _ I h) fun v s1 ⟨x,H1,I1,r1,q1⟩=>⟨x,σ,H1,I1,r1,q1⟩)
def KY (c:TT) (t u:TS):TS:=fun D σ H=>c σ H fun b H1=>if b=true then t D σ H1 else u D σ H1
theorem JW {c:Expr}{a b:List Stmt}{tc:TT}(hc:PT X c tc)(ha:PSs X a t)(hb:PSs X b u):PS X (.If c a b pos) (KY tc t u):=by
  intro pins s σ H D I h
  refine wpAny_If (thn (hc pins s σ H _ I h) fun d s1 ⟨H1,I1,q1⟩ => ?_)
  cases d with
  | true=>exact ha pins s1 σ H1 D I1 q1
  | false=>exact hb pins s1 σ H1 D I1 q1
def Ip:TS:=fun _ _ _=>False
theorem Ds:PS X st Ip:=fun _ _ _ _ _ _ h=>h.elim
end
abbrev TG:=V→St→Hp→(St→Hp→Prop)→Prop
abbrev TGs:=List V→St→Hp→(St→Hp→Prop)→Prop
def PG (X:Cx) (target:Expr) (t:TG):Prop :=
  ∀ (pins:List (Addr × Obj)) (s:Shared) (σ:St) (H:Hp) (v:V) (u:Value) (Q:St→Hp→Prop),Inv X pins σ H s→bS v u→t v σ H Q →
    wpAny (model X.prog X.w) X.A (assign target X.env u) (fun _ s'=>∃ σ' H',Inv X pins σ' H' s'∧Q σ' H') X.xe s
def PGs (X:Cx) (ts:List Expr) (t:TGs):Prop :=
  ∀ (pins:List (Addr × Obj)) (s:Shared) (σ:St) (H:Hp) (vs:List V) (us:List Value) (Q:St→Hp→Prop),Inv X pins σ H s→aS vs us→t vs σ H Q →
    wpAny (model X.prog X.w) X.A (assignInOrder ((assignEach ts X.env).map (·.2)) us) (fun _ s'=>∃ σ' H',Inv X pins σ' H' s'∧Q σ' H') X.xe s
abbrev Iq:=V→V→V→Hp→(Hp→Prop)→Prop
def JX (X:Cx) (t:Iq):Prop :=
  ∀ (pins:List (Addr × Obj)) (s:Shared) (σ:St) (H:Hp) (o i v:V) (ov iv u:Value) (Q:Hp→Prop),Inv X pins σ H s→bS o ov→bS i iv→bS v u→t o i v H Q →
    wpAny (model X.prog X.w) X.A (setItem ov iv u) (fun _ s'=>∃ H',Inv X pins σ H' s'∧Q H') X.xe s
section
variable {X:Cx} {pos:Pos}
def HI (i:Nat):TG:=fun v σ H Q=>Q (σ.set i (some v)) H
theorem FU {i:Nat}{x:Str}(hN:X.N.Nodup)(hi:X.N[i]? = some x)(hx:Loc X.env.scope x)(hf:X.fn x=true∨X.env.scope.names.lookup x=some .local:=by first|exact .inl rfl|exact .inr rfl|assumption):PG X (.Name x pos) (HI i):=by
  intro pins s σ H v u Q I r h
  exact wpAny_assign_Name (we I hN hi hx r (fun s' I'=>⟨_,H,I',h⟩) hf)
def KZ:TGs:=fun vs σ H Q=>vs=[]∧Q σ H
def JY (t:TG) (u:TGs):TGs:=fun vs σ H Q=>∃ v r,vs=v :: r∧t v σ H fun σ' H'=>u r σ' H' Q
theorem FV:PGs X [] KZ:=by
  intro pins s σ H vs us Q I r h
  obtain⟨e,h⟩:=h
  subst e
  cases r
  exact assignInOrder_nil ⟨σ,H,I,h⟩
theorem Dt {e:Expr}{es:List Expr}{t:TG}{u:TGs}(h1:PG X e t)(h2:PGs X es u)
    (hs:(assignEach (e :: es) X.env).map (·.2)=assign e X.env :: (assignEach es X.env).map (·.2):=by rfl):PGs X (e :: es) (JY t u):=by
  intro pins s σ H vs us Q I r h
  obtain⟨v,vr,e1,h⟩:=h
  subst e1
  cases r with
  | cons r rr =>
    rw [hs]
    refine assignInOrder_cons (thn (h1 pins s σ H _ _ _ I r h) fun _ s1 ⟨σ1,H1,I1,q1⟩ => ?_)
    exact h2 pins s1 σ1 H1 _ _ Q I1 rr q1
def K0 (K:PySem.W.Frag) (n:Nat) (t:TGs):TG:=fun v σ H Q=>∃ a xs,v=.ref a∧SqT K H a xs∧xs.length=n∧t xs σ H Q
theorem Ir {es:List Expr}{k:Nat}{t:TGs}{n:Nat}(hc:X.calm=true)(h:PGs X es t)
    (hn:(assignEach es X.env).length=n:=by rfl) (hst:(assignEach es X.env).findIdx? (·.1)=none:=by rfl):PG X (.Tuple es k pos) (K0 X.K n t):=by
  intro pins s σ H v u Q I r hw
  obtain⟨a,xs,e1,hq,hl,hw⟩:=hw
  subst e1
  cases r
  obtain⟨its,rv,ht,hz⟩:=I.tuple hq
  refine assign_Tuple_tuple (I.ok.hd hc) ht (by simp [hn,← hl,rv.length]) hst fun h' hx => ?_
  have I1:Inv X pins σ H { s with heap:=h' }:=I.kept (t':=s.toks) fun b o e=>hx b o (Nat.ne_of_lt (Heap.lt_size e)) e
  exact h pins _ σ H xs _ Q I1 (by simpa using rv) hw
def K1 (to ti:TE) (t:Iq):TG:=fun v σ H Q=>to σ H fun o H1=>ti σ H1 fun i H2=>t o i v H2 fun H3=>Q σ H3
theorem Iu {o i:Expr}{to ti:TE}{t:Iq}(ho:PE X o to)(hi:PE X i ti)(hs:JX X t)
    (ha:∀ v,assign (.Subscript o i pos) X.env v=(do
      let ov ← holding [v] (eval o X.env)
      let iv ← holding [v,ov] (eval i X.env)
      standAt pos
      holding [v,ov,iv] (setItem ov iv v)
      release [v,ov,iv] []):=by intro _;rfl):PG X (.Subscript o i pos) (K1 to ti t):=by
  intro pins s σ H v u Q I r h
  rw [ha]
  refine wpAny_bind (wpAny_holding (thn (ho pins s σ H _ I h) fun ov s1 ⟨x,H1,I1,r1,q1⟩ => ?_))
  refine wpAny_bind (wpAny_holding (thn (hi pins s1 σ H1 _ I1 q1) fun iv s2 ⟨y,H2,I2,r2,q2⟩ => ?_))
  refine wpAny_bind (wpAny_standAt (wpAny_bind (wpAny_holding (thn (hs pins s2 σ H2 x y v ov iv u _ I2 r1 r2 r q2) fun _ s3 ⟨H3,I3,q3⟩ => ?_))))
  exact wpAny_release ⟨σ,H3,I3,q3⟩
def JZ (te:TE) (g:TG):TS:=fun D σ H=>te σ H fun x H1=>g x σ H1 D.nx
theorem Du {tg e:Expr}{te:TE}{g:TG}(he:PE X e te)(hg:PG X tg g)(hs:swapsWithSole [tg] e pos.line X.env=pure false:=by rfl)(hw:swappedStores [tg] e X.env=pure none:=by rfl)
    (h1:(assignEach [tg] X.env).map (·.2)=[assign tg X.env]:=by rfl):PS X (.Assign [tg] e pos) (JZ te g):=by
  intro pins s σ H D I h
  refine wpAny_Assign_stores (thn (he pins s σ H _ I h) fun v s1 ⟨x,H1,I1,r1,q1⟩ => ?_) hs hw
  rw [h1]
  exact thn (hg pins s1 σ H1 x v _ I1 r1 q1) fun _ s2 q=>q
theorem Iv {i:Nat}{x:Str}{e:Expr}{te:TE}{pos':Pos}(hN:X.N.Nodup)(hi:X.N[i]? = some x)(hx:Loc X.env.scope x)(he:PE X e te)(hs:swapsWith e (some (.Name x pos')) pos.line X.env=pure false:=by rfl)(hf:X.fn x=true∨X.env.scope.names.lookup x=some .local:=by first|exact .inl rfl|exact .inr rfl|assumption) :
    PS X (.Assign [.Name x pos'] e pos) (JZ te (HI i)):=by
  intro pins s σ H D I h
  refine wpAny_Assign_Name (thn (he pins s σ H _ I h) fun v s1 ⟨y,H1,I1,r1,q1⟩ => ?_) hs
  exact we I1 hN hi hx r1 (fun s2 I2=>⟨_,H1,I2,q1⟩) hf
end
section
variable {X:Cx} {pos:Pos}
def Iw (c:TT) (tb:TS):TS:=fun D σ H=>∃ W:Nat→St→Hp→Prop,(∃ m,W m σ H) ∧ ∀ m σ H,W m σ H →
  c σ H fun b H1=>if b=true then ∃ N:St→Hp→Prop,(∀ σ' H',N σ' H' → ∃ m',m' < m∧W m' σ' H')∧tb { D with nx:=N,ct:=N,bk:=D.nx } σ H1 else D.nx σ H1
theorem Dv {c:Expr}{body:List Stmt}{tc:TT}{tb:TS}(hp:PassesOwn (model X.prog X.w) X.A X.env X.xe)(hc:PT X c tc)(hb:PSs X body tb):PS X (.While c body [] pos) (Iw tc tb):=by
  intro pins s σ H D I h
  obtain⟨W,⟨m0,w0⟩,turn⟩:=h
  refine wpAny_While (codeAny_whileLoop (fun n s'=>∃ σ' H',Inv X pins σ' H' s'∧W n σ' H') ?_ m0 ⟨σ,H,I,w0⟩)
  rintro n s1 ⟨σ1,H1,I1,w1⟩
  refine wpAny_passesOwn hp (thn (hc pins s1 σ1 H1 _ I1 (turn n σ1 H1 w1)) fun b s2 ⟨H2,I2,q2⟩ => ?_)
  cases b with
  | true =>
    obtain⟨N,hN,q2⟩:=q2
    rw [if_pos rfl]
    refine wpAny_passesOwn hp (thn (hb pins s2 σ1 H2 _ I2 q2) fun f s3 q3 => ?_)
    cases f with
    | next =>
      obtain⟨σ3,H3,I3,n3⟩:=q3
      obtain⟨m',hm,w3⟩:=hN σ3 H3 n3
      exact⟨m',hm,σ3,H3,I3,w3⟩
    | cont =>
      obtain⟨σ3,H3,I3,n3⟩:=q3
      obtain⟨m',hm,w3⟩:=hN σ3 H3 n3
      exact⟨m',hm,σ3,H3,I3,w3⟩
    | brk=>exact q3
    | ret v=>exact q3
  | false =>
    rw [if_neg Bool.false_ne_true]
    exact wpAny_execs_nil ⟨σ1,H2,I2,q2⟩
end
structure It where
  go:Nat→Hp→Prop
  yld:Nat→Hp→V→Hp→Prop
  stop:Nat→Hp→Prop
def oA (X:Cx) (pins:List (Addr × Obj)) (H:Hp) (b:Addr):Prop :=
  H b=none∧b≠X.env.locals∧b∉X.fs∧(b∈X.ex∨X.s₀.heap.objs.size≤b)∧(∀ x c,X.env.cells.lookup x=some c→c≠b) ∧ ∀ p∈X.pn++pins,p.1≠b
theorem Inv.fpOk {X:Cx}{pins:List (Addr × Obj)}{σ:St}{H H':Hp}{s:Shared}{b:Addr}(I:Inv X pins σ H s)(hb:s.heap.objs.size≤b)(hn:H' b=none):oA X pins H' b:=by
  refine⟨hn,Nat.ne_of_gt (Nat.lt_of_lt_of_le I.lt hb),I.nofs hb,.inr (Nat.le_trans I.sz hb),fun x c e z => ?_,fun p hp z => ?_⟩
  · obtain⟨v,q⟩:=I.cell x c e
    exact absurd (Nat.lt_of_lt_of_le q.lt (by rw [z];exact hb)) (Nat.lt_irrefl _)
  · exact absurd (Nat.lt_of_lt_of_le (Heap.lt_size (I.pin p hp).1) (by rw [z];exact hb)) (Nat.lt_irrefl _)
structure wg (P:Program) (w:World) (K:PySem.W.Frag) (tg:Expr) (J:It) (fp:List Addr) (it:Addr) (tn:Nat→Heap→Prop):Prop where
  mem:it∈fp
  obj:∀ i h,tn i h → ∀ b∈fp,∃ o,h.get? b=some o ∧ ∀ v,o.data ≠ .cell v
  keep:∀ i h h',tn i h→(∀ b∈fp,∀ o,h.get? b=some o→h'.get? b=some o)→tn i h'
  item:∀ (X:Cx),X.prog=P→X.w=w→X.K=K→X.calm=true → ∀ (i:Nat) (pins:List (Addr × Obj)) (s:Shared) (σ:St) (H:Hp) (E:Value→Shared→Prop),Inv X pins σ H s→(∀ b∈fp,oA X pins H b)→tn i s.heap→J.go i H →
    wpAny (model P w) X.A (pyNext (.ref it)) (fun r s1=>∃ u,r=some u ∧
      wpAny (model P w) X.A (letOwnedTupleGo tg (.ref it) u) (fun _ s2=>∃ x H',Inv X pins σ H' s2∧bS x u∧J.yld i H x H'∧tn (i + 1) s2.heap ∧ ∀ b∈fp,H' b=none) E s1) E s
  done:∀ (X:Cx),X.prog=P→X.w=w→X.K=K→X.calm=true → ∀ (i:Nat) (pins:List (Addr × Obj)) (s:Shared) (σ:St) (H:Hp) (E:Value→Shared→Prop),Inv X pins σ H s→(∀ b∈fp,oA X pins H b)→tn i s.heap→J.stop i H →
    wpAny (model P w) X.A (pyNext (.ref it)) (fun r s1=>r=none∧Inv X pins σ H s1) E s
  self:∀ (A:Around) (i:Nat) (s:Shared) (Q:Value→Shared→Prop) (E:Value→Shared→Prop),tn i s.heap→Q (.ref it) s→wpAny (model P w) A (pyIter (.ref it)) Q E s
abbrev TI:=St→Hp→(It→Hp→Prop)→Prop
def PIE (X:Cx) (pins:List (Addr × Obj)) (σ:St) (tg:Expr) (R:It→Hp→Prop) (itv:Value) (s2:Shared):Prop :=
  ∃ (it:Addr) (fp:List Addr) (tn:Nat→Heap→Prop) (J:It) (H':Hp),itv=.ref it∧Inv X pins σ H' s2∧wg X.prog X.w X.K tg J fp it tn∧tn 0 s2.heap∧(∀ b∈fp,oA X pins H' b)∧R J H'
def PI (X:Cx) (tg iter:Expr) (wi:TI):Prop :=
  ∀ (pins:List (Addr × Obj)) (s:Shared) (σ:St) (H:Hp) (R:It→Hp→Prop),Inv X pins σ H s→wi σ H R →
    wpAny (model X.prog X.w) X.A (eval iter X.env) (fun v s1=>wpAny (model X.prog X.w) X.A (pyIter v) (PIE X pins σ tg R) X.xe s1) X.xe s
theorem Dw {M:Model}{A:Around}{E:Value→Shared→Prop}{s:Shared}{tg:Expr}{it:Addr}{u:Value}{o:Obj}{n:String}{vs:Array Value}{Q:Unit→Shared→Prop}(ho:s.heap.get? it=some o)(hc:o.cls=.type n)(hd:o.data=.fields vs)
    (hn : ["enumerate", "zip", "dict_itemiterator", "dict_reverseitemiterator", "odict_iterator", "itertools.zip_longest", "itertools.pairwise"].contains n=false) (hQ:Q () s):wpAny M A (letOwnedTupleGo tg (.ref it) u) Q E s:=by
  unfold letOwnedTupleGo
  cases tg<;>first
    | exact wpAny_pure hQ
    | (cases u<;>first
        | exact wpAny_pure hQ
        | (refine wpAny_bind (wpAny_load ho ?_)
           rw [hc,hd]
           show wpAny M A (if (["enumerate", "zip", "dict_itemiterator", "dict_reverseitemiterator", "odict_iterator", "itertools.zip_longest", "itertools.pairwise"].contains n && vs[0]? == some (rawInt _))=true then _ else _) Q E s
           rw [if_neg (by intro h;rw [hn,Bool.false_and] at h;cases h)]
           exact wpAny_pure hQ))
def Itl (K:PySem.W.Frag) (a:Addr):It :=
  ⟨fun i H=>∃ xs x,SqL K H a xs∧xs[i]? = some x,fun i H x H'=>H'=H ∧ ∀ xs,SqL K H a xs→xs[i]? = some x,fun i H=>∃ xs,SqL K H a xs∧xs.length≤i⟩
def Itt (K:PySem.W.Frag) (a:Addr):It :=
  ⟨fun i H=>∃ xs x,SqT K H a xs∧xs[i]? = some x,fun i H x H'=>H'=H ∧ ∀ xs,SqT K H a xs→xs[i]? = some x,fun i H=>∃ xs,SqT K H a xs∧xs.length≤i⟩
def Itr (lo:Int) (n:Nat):It:=⟨fun i _=>i < n,fun i H x H'=>H'=H∧x=.int (lo + i),fun i _=>n≤i⟩
theorem BM {P:Program}{w:World}{K:PySem.W.Frag}{tg:Expr}(a it:Addr):wg P w K tg (Itl K a) [it] it (fun i h=>h.IsListIter it a i) where
  mem:=by simp
  obj:=fun i h st b hb=>by
    have e:b=it:=by simpa using hb
    subst e
    obtain⟨o,e,c,d⟩:=st
    exact⟨o,e,fun v z=>by rw [d] at z;cases z⟩
  keep:=fun i h h' st k=>st.at fun o e=>k it (by simp) o e
  item:=by
    intro X hP hw hK hc i pins s σ H E I hf st hg
    subst hP hw hK
    obtain⟨xs,x,hq,hx⟩:=hg
    obtain⟨its,rv,p,hz⟩:=I.list hq
    obtain⟨u,hu,ru⟩:=rv.get hx
    obtain⟨f0,f1,f2,f3,f4,f5⟩:=hf it (by simp)
    refine wpAny_pyNext_list_item st p.isList (x:=u) (by simpa using hu) fun h' st' sb => ?_
    have I1:Inv X pins σ H { s with heap:=h' }:=I.turned (t':=s.toks) (fun b o hb e=>(sb.2 b hb).trans e) f0 f1 f3 f4 f5
    obtain⟨o,e,c,d⟩:=id st'
    exact⟨u,rfl,Dw (s:={ s with heap:=h' }) e c d (by decide) ⟨x,H,I1,ru,⟨rfl,fun ys hy=>by rw [I.list_inj hy hq];exact hx⟩,st',fun b hb=>(hf b hb).1⟩⟩
  done:=by
    intro X hP hw hK hc i pins s σ H E I hf st hg
    subst hP hw hK
    obtain⟨xs,hq,hx⟩:=hg
    obtain⟨its,rv,p,hz⟩:=I.list hq
    obtain⟨f0,f1,f2,f3,f4,f5⟩:=hf it (by simp)
    have hl:=rv.length
    exact wpAny_pyNext_list_end (I.ok.hd hc) st p.isList (by simp;omega) fun h' eb=>⟨rfl,I.turned (t':=s.toks) (fun b o hb e=>eb b o hb e) f0 f1 f3 f4 f5⟩
  self:=fun _ _ _ _ _ st h=>wpAny_pyIter_listiter st h
theorem yv {P:Program}{w:World}{K:PySem.W.Frag}{tg:Expr}(a it:Addr):wg P w K tg (Itt K a) [it] it (fun i h=>h.IsTupleIter it a i) where
  mem:=by simp
  obj:=fun i h st b hb=>by
    have e:b=it:=by simpa using hb
    subst e
    obtain⟨o,e,c,d⟩:=st
    exact⟨o,e,fun v z=>by rw [d] at z;cases z⟩
  keep:=fun i h h' st k=>st.at fun o e=>k it (by simp) o e
  item:=by
    intro X hP hw hK hc i pins s σ H E I hf st hg
    subst hP hw hK
    obtain⟨xs,x,hq,hx⟩:=hg
    obtain⟨its,rv,p,hz⟩:=I.tuple hq
    obtain⟨u,hu,ru⟩:=rv.get hx
    obtain⟨f0,f1,f2,f3,f4,f5⟩:=hf it (by simp)
    refine wpAny_pyNext_tuple_item st (show s.heap.IsTuple a its.toArray from p) (x:=u) (by simpa using hu) fun h' st' sb => ?_
    have I1:Inv X pins σ H { s with heap:=h' }:=I.turned (t':=s.toks) (fun b o hb e=>(sb.2 b hb).trans e) f0 f1 f3 f4 f5
    obtain⟨o,e,c,d⟩:=id st'
    exact⟨u,rfl,Dw (s:={ s with heap:=h' }) e c d (by decide) ⟨x,H,I1,ru,⟨rfl,fun ys hy=>by rw [I.tuple_inj hy hq];exact hx⟩,st',fun b hb=>(hf b hb).1⟩⟩
  done:=by
    intro X hP hw hK hc i pins s σ H E I hf st hg
    subst hP hw hK
    obtain⟨xs,hq,hx⟩:=hg
    obtain⟨its,rv,p,hz⟩:=I.tuple hq
    obtain⟨f0,f1,f2,f3,f4,f5⟩:=hf it (by simp)
    have hl:=rv.length
    exact wpAny_pyNext_tuple_end (I.ok.hd hc) st (show s.heap.IsTuple a its.toArray from p) (by simp;omega) fun h' eb=>⟨rfl,I.turned (t':=s.toks) (fun b o hb e=>eb b o hb e) f0 f1 f3 f4 f5⟩
  self:=fun _ _ _ _ _ st h=>wpAny_pyIter_tupleiter st h
theorem yw {P:Program}{w:World}{K:PySem.W.Frag}{tg:Expr}(it:Addr)(lo:Int)(n:Nat):wg P w K tg (Itr lo n) [it] it (fun i h=>IsRangeIter h it (lo + (i:Nat) * 1) ((n:Int) - (i:Nat)) 1) where
  mem:=by simp
  obj:=fun i h st b hb=>by
    have e:b=it:=by simpa using hb
    subst e
    exact⟨_,st,fun v z=>by
      have z':Data.fields _=Data.cell v:=z
      cases z'⟩
  keep:=fun i h h' st k=>k it (by simp) _ st
  item:=by
    intro X hP hw hK hc i pins s σ H E I hf st hg
    subst hP hw hK
    obtain⟨f0,f1,f2,f3,f4,f5⟩:=hf it (by simp)
    have W:=Walks.range (prog:=X.prog) (w:=X.w) (I.ok.hd hc) it lo 1 n
    refine W.item i s _ _ hg st fun v h' tk hv st' kk => ?_
    obtain⟨t,rfl⟩:=hv
    have I1:Inv X pins σ H { s with heap:=h',toks:=tk }:=I.turned (fun b o hb e=>kk b o (by simpa using hb) e) f0 f1 f3 f4 f5
    refine⟨_,rfl,Dw (s:={ s with heap:=h',toks:=tk }) (n := "range_iterator") st' rfl rfl (by decide) ⟨.int (lo + i),H,I1,⟨t,?_⟩,⟨rfl,rfl⟩,st',fun b hb=>(hf b hb).1⟩⟩
    rw [Int.mul_one]
  done:=by
    intro X hP hw hK hc i pins s σ H E I hf st hg
    subst hP hw hK
    obtain⟨f0,f1,f2,f3,f4,f5⟩:=hf it (by simp)
    exact wpAny_pyNext_range_end (I.ok.hd hc) st (by have:n≤i:=hg;omega) fun h' eb=>⟨rfl,I.turned (t':=s.toks) (fun b o hb e=>eb b o hb e) f0 f1 f3 f4 f5⟩
  self:=fun _ _ _ _ _ st h=>wpAny_pyIter_rangeiter st h
end L2
namespace L2
open PySem PySem.Spec PyProof.Rows
section
variable {X:Cx} {tg:Expr}
theorem Dx {pins:List (Addr × Obj)}{σ:St}{H:Hp}{s:Shared}{R:It→Hp→Prop}{E:Value→Shared→Prop}{lo hi:Int}{t u v:Tok}{tk:Nat}(I:Inv X pins σ H s)(h1 : -(2 ^ 62)≤lo)(h2:lo < 2 ^ 62)(h3 : -(2 ^ 62)≤hi)(h4:hi < 2 ^ 62)
    (q:R (Itr lo (hi - lo).toNat) H):wpAny (model X.prog X.w) X.A (pyIter (.ref s.heap.objs.size)) (PIE X pins σ tg R) E { s with heap:=s.heap.push { cls:=.type "range",data:=.fields #[.int lo t,.int hi u,.int 1 v] },toks:=tk }:=by
  refine wpAny_pyIter_range (IsRange.new ..) (small_one h1 h2 h3 h4) ?_
  have I1:Inv X pins σ H { s with heap:=s.heap.push { cls:=.type "range",data:=.fields #[.int lo t,.int hi u,.int 1 v] },toks:=tk }:=I.kept fun b o e=>Heap.get?_push_of_some _ e
  refine⟨(s.heap.push { cls:=.type "range",data:=.fields #[.int lo t,.int hi u,.int 1 v] }).objs.size,[(s.heap.push { cls:=.type "range",data:=.fields #[.int lo t,.int hi u,.int 1 v] }).objs.size],_,_,H,rfl,
    I1.kept (t':=tk) fun b o e=>Heap.get?_push_of_some _ e,yw _ lo (hi - lo).toNat,?_,fun b hb => ?_,q⟩
  · have e1:lo + ((0:Nat):Int) * 1=lo:=by simp
    have e2:(((hi - lo).toNat:Nat):Int) - ((0:Nat):Int)=Builtin.Range.rangeSize lo hi 1:=by rw [rangeSize_one];split<;>omega
    show IsRangeIter _ _ (lo + ((0:Nat):Int) * 1) ((((hi - lo).toNat:Nat):Int) - ((0:Nat):Int)) 1
    rw [e1,e2]
    exact Heap.get?_push_size _ rfl
  · have e:b=(s.heap.push { cls:=.type "range",data:=.fields #[.int lo t,.int hi u,.int 1 v] }).objs.size:=by simpa using hb
    subst e
    exact I1.fpOk (Nat.le_refl _) (I1.hok.fresh (Nat.le_refl _))
def J0 (ta:TA):TI:=fun σ H R=>ta σ H fun vs H1=>∃ j:Int,vs=[.int j] ∧ -(2 ^ 62)≤j∧j < 2 ^ 62∧R (Itr 0 j.toNat) H1
theorem BN {a:Expr} {ta:TA} {p pos:Pos} (hg:Gl X "range") (hm:X.mg "range" = none) (ha:PA X [a] ta) (hs:starEach [a] X.env=[(false,eval a X.env)]:=by rfl):PI X tg (.Call (.Name "range" p) [a] [] pos) (J0 ta):=by
  intro pins s σ H R I h
  refine Call_ (ke I hg hm boot_range (PyProof.Rows.callWith_type1 (thn (ha pos pins s σ H _ I h) fun us s1 ⟨vs,H1,I1,r1,q1⟩ => ?_) hs rfl))
  obtain⟨j,e,q1,q2,q⟩:=q1
  subst e
  cases r1 with
  | cons r rr =>
    cases rr
    obtain⟨t,rfl⟩:=r
    exact call_range_1 (Dx I1 (by omega) (by omega) q1 q2 (by simpa using q))
def K2 (wi:TI) (g:TG) (tb:TS):TS:=fun D σ H=>wi σ H fun J H1=>∃ W:Nat→Nat→St→Hp→Prop,(∃ m,W 0 m σ H1) ∧ ∀ i m σ H,W i m σ H →
  (J.stop i H∧D.nx σ H)∨(J.go i H ∧ ∃ N:St→Hp→Prop,(∀ σ' H',N σ' H' → ∃ m',m' < m∧W (i + 1) m' σ' H') ∧ ∀ x H',J.yld i H x H'→g x σ H' fun σ2 H2=>tb { D with nx:=N,ct:=N,bk:=D.nx } σ2 H2)
def oC (fp:List Addr) (h:Heap):List (Addr × Obj):=fp.filterMap fun b=>(h.get? b).map fun o=>(b,o)
theorem ic {fp:List Addr}{h:Heap}{b:Addr}{o:Obj}(hb:b∈fp)(e:h.get? b=some o):(b,o)∈oC fp h:=List.mem_filterMap.mpr ⟨b,hb,by rw [e];rfl⟩
theorem BO {fp:List Addr}{h:Heap}{p:Addr × Obj}(hp:p∈oC fp h):p.1∈fp∧h.get? p.1=some p.2:=by
  obtain⟨b,hb,e⟩:=List.mem_filterMap.mp hp
  cases q:h.get? b with
  | none=>rw [q] at e;cases e
  | some o =>
    rw [q] at e
    have e':(b,o)=p:=Option.some.inj e
    subst e'
    exact⟨hb,q⟩
theorem Inv.pinned {pins:List (Addr × Obj)}{σ:St}{H:Hp}{s:Shared}{fp:List Addr}(I:Inv X pins σ H s)(hf:∀ b∈fp,oA X pins H b)(ho:∀ b∈fp,∃ o,s.heap.get? b=some o ∧ ∀ v,o.data ≠ .cell v):Inv X (pins++oC fp s.heap) σ H s :=
  I.pins_of fun p hp=>(List.mem_append.mp hp).elim (fun z=>I.pin p (List.mem_append_right _ z)) fun z=>by
    obtain⟨hb,e⟩:=BO z
    obtain⟨f0,f1,f2,_⟩:=hf p.1 hb
    obtain⟨o,e',d⟩:=ho p.1 hb
    rw [e] at e';cases e'
    exact⟨e,f0,f1,f2,d⟩
theorem Inv.unpinned {pins pl:List (Addr × Obj)}{σ:St}{H:Hp}{s:Shared}(I:Inv X (pins++pl) σ H s):Inv X pins σ H s:=I.pins_of fun p hp=>I.pin p (List.mem_append_right _ (List.mem_append_left _ hp))
theorem Dy {iter:Expr}{body:List Stmt}{wi:TI}{g:TG}{tb:TS}{pos:Pos}(hp:PassesOwn (model X.prog X.w) X.A X.env X.xe)(hc:X.calm=true)(hi:PI X tg iter wi)(hg:PG X tg g)(hb:PSs X body tb)
    (hs:∀ x,foldedSetIterable iter X.env x=pure x:=by intro _;rfl):PS X (.For tg iter body [] pos) (K2 wi g tb):=by
  intro pins s σ H D I h
  refine wpAny_For (thn (hi pins s σ H _ I h) fun v s1 h1=>thn h1 fun itv s2 h2 => ?_) hs
  obtain⟨it,fp,tn,J,H2,e,I2,T,st2,f2,W,⟨m0,w0⟩,turn⟩:=h2
  subst e
  have stat:∀ {H':Hp},(∀ b∈fp,H' b=none) → ∀ b∈fp,oA X pins H' b:=fun hn b hb=>⟨hn b hb,(f2 b hb).2⟩
  refine codeAny_forLoop_any (fun n s'=>∃ i σ' H',Inv X pins σ' H' s'∧tn i s'.heap∧(∀ b∈fp,H' b=none)∧W i n σ' H') ?_ m0 ⟨0,σ,H2,I2,st2,fun b hb=>(f2 b hb).1,w0⟩
  rintro n s3 ⟨i,σ3,H3,I3,st3,fr3,w3⟩
  rcases turn i n σ3 H3 w3 with ⟨stop,qn⟩|⟨go,N,hN,step⟩
  · refine wpAny_passesOwn hp (thn (T.done X rfl rfl rfl hc i pins s3 σ3 H3 X.xe I3 (stat fr3) st3 stop) fun r s4 ⟨hr,I4⟩ => ?_)
    subst hr
    exact wpAny_execs_nil ⟨σ3,H3,I4,qn⟩
  · refine wpAny_passesOwn hp (thn (T.item X rfl rfl rfl hc i pins s3 σ3 H3 X.xe I3 (stat fr3) st3 go) fun r s4 ⟨u,hr,h4⟩ => ?_)
    subst hr
    refine wpAny_passesOwn hp (thn h4 fun _ s5 ⟨x,H5,I5,r5,y5,st5,fr5⟩ => ?_)
    have I5':=I5.pinned (stat fr5) (T.obj _ _ st5)
    refine wpAny_passesOwn hp (thn (hg _ s5 σ3 H5 x u _ I5' r5 (step x H5 y5)) fun _ s6 ⟨σ6,H6,I6,q6⟩ => ?_)
    refine wpAny_passesOwn hp (thn (hb _ s6 σ6 H6 _ I6 q6) fun f s7 q7 => ?_)
    have again:∀ {σ7:St} {H7:Hp},Inv X (pins++oC fp s5.heap) σ7 H7 s7→N σ7 H7 → ∃ m,m < n ∧ ∃ i σ' H',Inv X pins σ' H' s7∧tn i s7.heap∧(∀ b∈fp,H' b=none)∧W i m σ' H':=fun {σ7 H7} I7 n7=>by
      obtain⟨m',hm,w7⟩:=hN σ7 H7 n7
      refine⟨m',hm,i + 1,σ7,H7,I7.unpinned,T.keep _ _ _ st5 fun b hb o e=>(I7.pin (b,o) (List.mem_append_right _ (List.mem_append_right _ (ic hb e)))).1,fun b hb => ?_,w7⟩
      obtain⟨o,e,d⟩:=T.obj _ _ st5 b hb
      exact (I7.pin (b,o) (List.mem_append_right _ (List.mem_append_right _ (ic hb e)))).2.1
    cases f with
    | next=>obtain⟨σ7,H7,I7,n7⟩:=q7;exact again I7 n7
    | cont=>obtain⟨σ7,H7,I7,n7⟩:=q7;exact again I7 n7
    | brk=>obtain⟨σ7,H7,I7,q7⟩:=q7;exact⟨σ7,H7,I7.unpinned,q7⟩
    | ret v=>obtain⟨x7,σ7,H7,I7,r7,q7⟩:=q7;exact⟨x7,σ7,H7,I7.unpinned,r7,q7⟩
end
end L2
namespace L2
open PySem PySem.Spec PyProof.Rows
abbrev R2:=V→V→Hp→VK→Prop
def OpR (X:Cx) (f:Value→Value→Sem Value) (r:R2):Prop :=
  ∀ (pins:List (Addr × Obj)) (s:Shared) (σ:St) (H:Hp) (x y:V) (v u:Value) (Q:VK),Inv X pins σ H s→bS x v→bS y u→r x y H Q →
    wpAny (model X.prog X.w) X.A (f v u) (EP X pins σ Q) X.xe s
def UnR (X:Cx) (f:Value→Sem Value) (r:V→Hp→VK→Prop):Prop :=
  ∀ (pins:List (Addr × Obj)) (s:Shared) (σ:St) (H:Hp) (x:V) (v:Value) (Q:VK),Inv X pins σ H s→bS x v→r x H Q →
    wpAny (model X.prog X.w) X.A (f v) (EP X pins σ Q) X.xe s
def fA (X:Cx) (f:Value) (r:List V→Hp→VK→Prop):Prop :=
  ∀ (pins:List (Addr × Obj)) (s:Shared) (σ:St) (H:Hp) (xs:List V) (us:List Value) (Q:VK),Inv X pins σ H s→aS xs us→r xs H Q →
    wpAny (model X.prog X.w) X.A (call f us) (EP X pins σ Q) X.xe s
def tOp (r:R2) (ta tb:TE):TE:=fun σ H Q=>ta σ H fun x H1=>tb σ H1 fun y H2=>r x y H2 Q
def tUn (r:V→Hp→VK→Prop) (ta:TE):TE:=fun σ H Q=>ta σ H fun x H1=>r x H1 Q
def rI (C:Int→Int→Prop) (g:Int→Int→V):R2:=fun x y H Q=>∃ i j,x=.int i∧y=.int j∧C i j∧Q (g i j) H
def rI0 (g:Int→Int→V):R2:=fun x y H Q=>∃ i j,x=.int i∧y=.int j∧Q (g i j) H
def rU (g:Int→V):V→Hp→VK→Prop:=fun x H Q=>∃ i,x=.int i∧Q (g i) H
section
variable {X:Cx} {a b c:Expr} {ta tb tc:TE} {pos:Pos}
theorem Ix (ha:PE X a ta)(hb:PE X b tb){pins:List (Addr × Obj)}{s:Shared}{σ:St}{H:Hp}{R:V→V→Hp→Prop}(I:Inv X pins σ H s)
    (h:ta σ H fun x H1=>tb σ H1 fun y H2=>R x y H2) {Q:Value→Shared→Prop} {f:Value→Value→Sem Value}
    (hf:∀ v u s2 x y H2,Inv X pins σ H2 s2→bS x v→bS y u→R x y H2→wpAny (model X.prog X.w) X.A (f v u) Q X.xe s2) :
    wpAny (model X.prog X.w) X.A (eval a X.env) (fun v s₁ => wpAny (model X.prog X.w) X.A (eval b X.env) (fun u s₂ => wpAny (model X.prog X.w) X.A (f v u) Q X.xe s₂) X.xe s₁) X.xe s:=by
  refine thn (ha pins s σ H _ I h) fun v s1 ⟨x,H1,I1,r1,q1⟩ => ?_
  refine thn (hb pins s1 σ H1 _ I1 q1) fun u s2 ⟨y,H2,I2,r2,q2⟩ => ?_
  exact hf v u s2 x y H2 I2 r1 r2 q2
theorem HJ {op:Operator}{r:R2}(ho:OpR X (binaryOp op) r)(ha:PE X a ta)(hb:PE X b tb):PE X (.BinOp a op b pos) (tOp r ta tb):=by
  intro pins s σ H Q I h
  exact wpAny_BinOp (Ix ha hb I h fun v u s2 x y H2 I2 rx ry q=>ho pins s2 σ H2 x y v u Q I2 rx ry q)
theorem J1 {op:UnaryOp}{r:V→Hp→VK→Prop}(ho:UnR X (unaryOp op) r)(ha:PE X a ta):PE X (.UnaryOp op a pos) (tUn r ta):=by
  intro pins s σ H Q I h
  exact UnaryOp_ (thn (ha pins s σ H _ I h) fun v s1 ⟨x,H1,I1,r1,q1⟩=>ho pins s1 σ H1 x v Q I1 r1 q1)
theorem opI {f:Value→Value→Sem Value}{C:Int→Int→Prop}{g:Int→Int→Int}
    (rule:∀ (i j:Int) (t u:Tok) (s:Shared) (Q:Value→Shared→Prop) (E:Value→Shared→Prop),C i j→Q (.int (g i j) s.toks) { s with toks:=s.toks + 1 } → wpAny (model X.prog X.w) X.A (f (.int i t) (.int j u)) Q E s) :
    OpR X f (rI C fun i j=>.int (g i j)):=by
  intro pins s σ H x y v u Q I rx ry h
  obtain⟨i,j,rfl,rfl,hc,q⟩:=h
  obtain⟨t,rfl⟩:=rx
  obtain⟨t',rfl⟩:=ry
  exact rule i j t t' s _ _ hc ⟨.int (g i j),H,I.tok _,⟨_,rfl⟩,q⟩
theorem J2 {f:Value→Value→Sem Value}{g:Int→Int→Int}
    (rule:∀ (i j:Int) (t u:Tok) (s:Shared) (Q:Value→Shared→Prop) (E:Value→Shared→Prop),Q (.int (g i j) s.toks) { s with toks:=s.toks + 1 } → wpAny (model X.prog X.w) X.A (f (.int i t) (.int j u)) Q E s) :
    OpR X f (rI0 fun i j=>.int (g i j)):=by
  intro pins s σ H x y v u Q I rx ry h
  obtain⟨i,j,rfl,rfl,q⟩:=h
  obtain⟨t,rfl⟩:=rx
  obtain⟨t',rfl⟩:=ry
  exact rule i j t t' s _ _ ⟨.int (g i j),H,I.tok _,⟨_,rfl⟩,q⟩
theorem Iy {f:Value→Value→Sem Value}{g:Int→Int→Bool}
    (rule:∀ (i j:Int) (t u:Tok) (s:Shared) (Q:Value→Shared→Prop) (E:Value→Shared→Prop),Q (.bool (g i j)) s→wpAny (model X.prog X.w) X.A (f (.int i t) (.int j u)) Q E s) :
    OpR X f (rI0 fun i j=>.bl (g i j)):=by
  intro pins s σ H x y v u Q I rx ry h
  obtain⟨i,j,rfl,rfl,q⟩:=h
  obtain⟨t,rfl⟩:=rx
  obtain⟨t',rfl⟩:=ry
  exact rule i j t t' s _ _ ⟨.bl (g i j),H,I,rfl,q⟩
def J3 (i j:Int):Prop:=0≤j∧j≤1000000∧i.natAbs < 2 ^ 64
def FW (i j:Int):Prop:=(-(2 ^ 64) < i∧i < 2 ^ 64)∨(-(2 ^ 64) < j∧j < 2 ^ 64)
theorem FW.ok {i j:Int}(h:FW i j):IntMulOk i j:=by
  rcases h with ⟨h1,h2⟩|⟨h1,h2⟩
  · exact .of_left (intBits_le_64 h1 h2)
  · exact .of_right (intBits_le_64 h1 h2)
theorem Iz:OpR X (binaryOp .Add) (rI0 fun i j=>.int (i + j)):=J2 fun _ _ _ _ _ _ _ q=>add_int q
theorem fS:OpR X (binaryOp .Sub) (rI0 fun i j=>.int (i - j)):=J2 fun _ _ _ _ _ _ _ q=>sub_int q
theorem eB:OpR X (binaryOp .Mult) (rI FW fun i j=>.int (i * j)):=opI fun _ _ _ _ _ _ _ hc q=>mul_int q hc.ok
theorem gu:OpR X (binaryOp .Mod) (rI (fun _ j=>0 < j) fun i j=>.int (i % j)):=opI fun i j _ _ _ _ _ hc q=>by
  have h1:(0:Int) < j:=hc
  exact mod_int' (by omega) (by rw [Int.fmod_eq_emod_of_nonneg i (by omega)];exact q)
theorem Dz:OpR X (binaryOp .Pow) (rI J3 fun i j=>.int (i ^ j.toNat)):=opI fun _ _ _ _ _ _ _ hc q=>pow_int_small hc.1 hc.2.1 hc.2.2 q
theorem unI {f:Value→Sem Value}{g:Int→Int}
    (rule:∀ (i:Int) (t:Tok) (s:Shared) (Q:Value→Shared→Prop) (E:Value→Shared→Prop),Q (.int (g i) s.toks) { s with toks:=s.toks + 1 } → wpAny (model X.prog X.w) X.A (f (.int i t)) Q E s) :
    UnR X f (rU fun i=>.int (g i)):=by
  intro pins s σ H x v Q I rx h
  obtain⟨i,rfl,q⟩:=h
  obtain⟨t,rfl⟩:=rx
  exact rule i t s _ _ ⟨.int (g i),H,I.tok _,⟨_,rfl⟩,q⟩
theorem IA:UnR X (unaryOp .USub) (rU fun i=>.int (-i)):=unI fun _ _ _ _ _ q=>neg_int q
end
section
variable {X:Cx} {a b c:Expr} {ta tb tc:TE} {pos:Pos}
theorem DA {pins:List (Addr × Obj)}{σ:St}{H:Hp}{s:Shared}{Q:VK}{k k':Bool}(I:Inv X pins σ H s)(q:Q (.bl k) H)(e:k=k'):EP X pins σ Q (.bool k') s:=by
  subst e
  exact⟨.bl k,H,I,rfl,q⟩
theorem wj:OpR X (compareOp .Lt) (rI0 fun i j=>.bl (decide (i < j))):=Iy fun _ _ _ _ _ _ _ q=>lt_int q
theorem HK:OpR X (compareOp .LtE) (rI0 fun i j=>.bl (decide (i≤j))):=Iy fun _ _ _ _ _ _ _ q=>le_int q
theorem kF:OpR X (compareOp .Gt) (rI0 fun i j=>.bl (decide (j < i))):=Iy fun _ _ _ _ _ _ _ q=>gt_int q
theorem IB:OpR X (compareOp .Is) (fun x y H Q=>y=.non∧Q (.bl (decide (x=.non))) H):=by
  intro pins s σ H x y v u Q I rx ry h
  obtain⟨rfl,q⟩:=h
  cases ry
  refine is_none_gen (DA I q ?_)
  cases x<;>first
    | (cases rx;rfl)
    | (obtain⟨t,rfl⟩:=rx;rfl)
theorem AX:OpR X (compareOp .IsNot) (fun x y H Q=>y=.non∧Q (.bl (!decide (x=.non))) H):=by
  intro pins s σ H x y v u Q I rx ry h
  obtain⟨rfl,q⟩:=h
  cases ry
  refine isnot_none_gen (DA I q ?_)
  cases x<;>first
    | (cases rx;rfl)
    | (obtain⟨t,rfl⟩:=rx;rfl)
theorem OpR.or {f:Value→Value→Sem Value}{r r':R2}(h:OpR X f r)(h':OpR X f r'):OpR X f (fun x y H Q=>r x y H Q∨r' x y H Q):=by
  intro pins s σ H x y v u Q I rx ry q
  rcases q with q|q
  · exact h pins s σ H x y v u Q I rx ry q
  · exact h' pins s σ H x y v u Q I rx ry q
theorem aJ (b:Expr){op:CmpOp}(h:op ≠ .In:=by decide)(h2:op ≠ .NotIn:=by decide):behindInMarks op b=false:=by
  have e1:(op == CmpOp.In)=false:=by cases op<;>first|rfl|exact absurd rfl h
  have e2:(op == CmpOp.NotIn)=false:=by cases op<;>first|rfl|exact absurd rfl h2
  cases b<;>simp [behindInMarks,e1,e2]
theorem FX {op:CmpOp}{r:R2}(ho:OpR X (compareOp op) r)(ha:PE X a ta)(hb:PE X b tb)(hm:behindInMarks op b=false):PE X (.Compare a [op] [b] pos) (tOp r ta tb):=by
  intro pins s σ H Q I h
  exact wpAny_Compare1 (Ix ha hb I h fun v u s2 x y H2 I2 rx ry q=>ho pins s2 σ H2 x y v u Q I2 rx ry q) hm
def J4 (t:TE):TT:=fun σ H Q=>t σ H fun x H'=>∃ k,x=.bl k∧Q k H'
theorem FY {op:CmpOp}{r:R2}(ho:OpR X (compareOp op) r)(ha:PE X a ta)(hb:PE X b tb)(hm:behindInMarks op b=false):PT X (.Compare a [op] [b] pos) (J4 (tOp r ta tb)):=by
  intro pins s σ H Q I h
  refine wpAny_isTrue_Compare1 (thn (ha pins s σ H _ I h) fun v s1 ⟨x,H1,I1,r1,q1⟩=>thn (hb pins s1 σ H1 _ I1 q1) fun u s2 ⟨y,H2,I2,r2,q2⟩ =>
    thn (ho pins s2 σ H2 x y v u _ I2 r1 r2 q2) fun c s3 ⟨z,H3,I3,r3,k,e,q3⟩ => ?_) hm
  subst e
  cases r3
  exact wpAny_truthy_bool ⟨H3,I3,q3⟩
def DB (r r':R2) (ta tb tc:TE):TE:=fun σ H Q=>ta σ H fun x H1=>tb σ H1 fun y H2=>r x y H2 fun z H3=>∃ k,z=.bl k ∧
  (if k=true then tc σ H3 fun w' H4=>r' y w' H4 Q else Q (.bl false) H3)
theorem DC {op op':CmpOp}{r r':R2}(ho:OpR X (compareOp op) r)(ho':OpR X (compareOp op') r')(ha:PE X a ta)(hb:PE X b tb)(hc:PE X c tc)
    (hm:lastMarks [op,op'] [b,c] = false:=by with_unfolding_all rfl):PE X (.Compare a [op,op'] [b,c] pos) (DB r r' ta tb tc):=by
  intro pins s σ H Q I h
  refine Compare_chain (thn (ha pins s σ H _ I h) fun v s1 ⟨x,H1,I1,r1,q1⟩=>chain_link (thn (hb pins s1 σ H1 _ I1 q1) fun u s2 ⟨y,H2,I2,r2,q2⟩ =>
    thn (ho pins s2 σ H2 x y v u _ I2 r1 r2 q2) fun d s3 ⟨z,H3,I3,r3,k,e,q3⟩ => ?_)) hm
  subst e
  cases r3
  refine wpAny_truthy_bool ?_
  cases k with
  | false=>exact ite_ff ⟨.bl false,H3,I3,rfl,q3⟩
  | true=>exact ite_tt (chain_last (thn (hc pins s3 σ H3 _ I3 q3) fun w' s4 ⟨z',H4,I4,r4,q4⟩=>ho' pins s4 σ H4 y z' u w' Q I4 r2 r4 q4))
theorem oD:(sizeLine:Nat) < 2 ^ 63:=by rw [sizeLine_eq];decide
theorem wm {x:V}{us:List Value}(r:aS [x] us):∃ u,us=[u]∧bS x u:=by
  cases r with
  | cons r1 r2=>cases r2;exact⟨_,rfl,r1⟩
theorem J5 {x y:V}{us:List Value}(r:aS [x,y] us):∃ u w',us=[u,w']∧bS x u∧bS y w':=by
  cases r with
  | cons r1 r2 =>
    cases r2 with
    | cons r3 r4=>cases r4;exact⟨_,_,rfl,r1,r3⟩
theorem BP (hc:X.calm=true):fA X (.builtin "min") (fun xs H Q=>∃ i j,xs=[.int i,.int j]∧Q (.int (if j < i then j else i)) H):=by
  intro pins s σ H xs us Q I r h
  obtain⟨i,j,rfl,q⟩:=h
  obtain⟨u,w',rfl,⟨t,rfl⟩,⟨t',rfl⟩⟩:=J5 r
  refine min_two_ints (I.ok.hd hc) fun h' tk k=>⟨_,H,I.kept k,?_,q⟩
  by_cases hj:j < i
  · rw [if_pos hj,if_pos hj];exact⟨_,rfl⟩
  · rw [if_neg hj,if_neg hj];exact⟨_,rfl⟩
theorem BQ:fA X (.type "int") (fun xs H Q=>(∃ i,xs=[.int i]∧Q (.int i) H) ∨ ∃ k,xs=[.bl k]∧Q (.int (if k then 1 else 0)) H):=by
  intro pins s σ H xs us Q I r h
  rcases h with ⟨i,rfl,q⟩|⟨k,rfl,q⟩
  · obtain⟨u,rfl,t,rfl⟩:=wm r
    exact call_int_int ⟨.int i,H,I,⟨_,rfl⟩,q⟩
  · obtain⟨u,rfl,r1⟩:=wm r
    cases r1
    exact call_int_bool ⟨.int (if k then 1 else 0),H,I.tok _,⟨_,rfl⟩,q⟩
end
end L2
namespace L2
open PySem PySem.Spec PyProof.Rows
structure Lh (h:Heap) (x dx C:Addr) (mA:Str→Option Value):Prop where
  obj:h.get? x=some (PySem.W.instObj C dx)
  ns:h.Ns1 dx mA
  ne:dx≠x
section
variable {prog:Program} {w:World} {A:Around} {E:Value→Shared→Prop} {s:Shared} {K:PySem.W.Frag} {x dx C f:Addr} {mA:Str→Option Value} {name:Str} {v:Value}
end
section
variable {P:Program} {w:World} {H H':Hp} {h h':Heap} {a C dx:Addr} {fs fs':List (Str × V)}
end
structure Cls (K:PySem.W.Frag) (C:Addr):Prop where
  pg:PySem.W.plainGet K C Str.empty=true
  hd:PySem.W.hasDictIn K C=true
  po:PySem.W.plainOver K C=true
  sa:PySem.W.findIn K (.ref C) "__setattr__" = some (some (.builtin "object.__setattr__"))
structure Con (K:PySem.W.Frag) (C:Addr) (f:Str) (v:V) (u:Value):Prop where
  at_:PySem.W.findIn K (.ref C) f=some (some u)
  rel:bS v u
  get:PySem.W.specialIn K u "__get__" = some none
  cp:PySem.W.copiedNames.contains f=false
structure Li (K:PySem.W.Frag) (C:Addr) (m:Str) (f:Addr):Prop where
  at_:PySem.W.findIn K (.ref C) m=some (some (.ref f))
  fn:PySem.W.isFn K (.ref f)=true
  kp:PySem.W.keepIn K (.ref f)=true
section
variable {X:Cx} {pins:List (Addr × Obj)} {σ:St} {H:Hp} {s:Shared} {a C dx:Addr} {fs:List (Str × V)} {f:Str} {v:V} {A:Around} {E:Value→Shared→Prop}
end
section
variable {X:Cx} {o e value:Expr} {f:Str} {pos pos' tpos:Pos} {ta tv:TE}
end
section
variable {X:Cx} {pins:List (Addr × Obj)} {σ:St} {H:Hp} {s:Shared} {A:Around} {E:Value→Shared→Prop} {Q:Value→Shared→Prop} {c:Value} {b:Bool}
inductive oE (K:PySem.W.Frag) (H:Hp):V→Value→Prop where
  | non:oE K H .non (.type "NoneType")
  | bl (x:Bool):oE K H (.bl x) (.type "bool")
  | int (i:Int):oE K H (.int i) (.type "int")
  | str (x:Str):oE K H (.str x) (.type "str")
  | flt (x:UInt64):oE K H (.flt x) (.type "float")
  | lst {a:Addr} {xs:List V} (e:H a=some (.lst xs)):oE K H (.ref a) (.type "list")
  | frz {a:Addr} {o:Obj} {xs:List V} (e:H a=some (.frz o (.lst xs))):oE K H (.ref a) (.type "list")
  | tup {a:Addr} {xs:List V} (e:H a=some (.tup xs)):oE K H (.ref a) (.type "tuple")
  | dK {a:Addr} {kvs:List (Key × V)} (e:H a=some (.dK kvs)):oE K H (.ref a) (.type "dict")
  | dT {a:Addr} {kvs:List (List Key × V)} (e:H a=some (.dT kvs)):oE K H (.ref a) (.type "dict")
  | ins {a C dx:Addr} {fs:List (Str × V)} (e:H a=some (.ins C dx fs)) (cl:Cls K C) (ha:PySem.W.findIn K (.ref C) "__class__" = some (some (.builtin "object.__class__")))
      (hn:PySem.W.specialIn K (.builtin "object.__class__") "__get__" = some (some (.builtin "getset_descriptor.__get__"))) (htk:PySem.W.takesIn K (.builtin "object.__class__")=some true)
      (hm:PySem.W.mroIn K C (.type "object")=some true):oE K H (.ref a) (.ref C)
end
end L2
namespace L2
open PySem PySem.Spec PyProof.Rows
structure ie (k:Nat) (A:Around):Prop where
  hd:A.handled=none
  dp:A.depth + 3 * k + 5 < recursionLimit
  un:A.units + 16 * k + 200 < cLine
theorem ie.mono {j k:Nat}{A:Around}(r:ie k A)(h:j≤k):ie j A:=⟨r.hd,by have:=r.dp;omega,by have:=r.un;omega⟩
theorem ie.deeper {k:Nat}{A:Around}(r:ie (k + 1) A)(env:Env):ie k (A.deeper env) :=
  ⟨r.hd,by have:=r.dp;show A.depth + 1 + 3 * k + 5 < _;omega,by have:=r.un;show A.units + 3 + 16 * k + 200 < _;omega⟩
theorem ie.depth {k:Nat}{A:Around}(r:ie k A):A.depth < recursionLimit:=by have:=r.dp;omega
def K3:TA:=fun _ H Q=>Q [] H
def J6 (ta:TE) (tr:TA):TA:=fun σ H Q=>ta σ H fun x H1=>tr σ H1 fun xs H2=>Q (x :: xs) H2
section
variable {X:Cx} {e:Expr} {es:List Expr} {te:TE} {t:TA} {pos:Pos}
theorem df:PA X [] K3:=fun _ _ _ _ H Q I h=>Calls.spliced_nil ⟨[],H,I,.nil,h⟩
theorem bX (ha:PE X e te)(hr:PA X es t)(hs:starEach (e :: es) X.env=(false,eval e X.env) :: starEach es X.env:=by rfl):PA X (e :: es) (J6 te t):=by
  intro pos pins s σ H Q I h
  rw [hs]
  show wpAny _ _ (spliced ((false,eval e X.env) :: backTo pos (starEach es X.env))) _ _ s
  refine Calls.spliced_cons (thn (ha pins s σ H _ I h) fun u s1 ⟨x,H1,I1,r1,q1⟩ => ?_)
  exact thn (hr pos pins s1 σ H1 _ I1 q1) fun us s2 ⟨xs,H2,I2,r2,q2⟩=>⟨x :: xs,H2,I2,.cons r1 r2,q2⟩
def K4 (t:TA):TE:=fun σ H Q=>t σ H fun xs H1=>xs.length≤sizeLine ∧ ∀ p,H1 p=none→Q (.ref p) (upd H1 p (.tup xs))
def K5 (t:TA):TE:=fun σ H Q=>t σ H fun xs H1=>xs.length≤sizeLine ∧ ∀ p,H1 p=none→Q (.ref p) (upd H1 p (.lst xs))
theorem IC {x1}(h:PA X es t):PE X (.Tuple es x1 pos) (K4 t):=by
  intro pins s σ H Q I hq
  refine wpAny_Tuple_spliced (thn (h pos pins s σ H _ I hq) fun us s1 ⟨xs,H1,I1,r,z,q⟩=>⟨by rw [← r.length];exact z,?_⟩)
  have hf:H1 s1.heap.objs.size=none:=I1.hok.fresh (Nat.le_refl _)
  refine⟨.ref s1.heap.objs.size,upd H1 s1.heap.objs.size (.tup xs),I1.laid (t':=s1.toks) (fun b u e=>Heap.get?_push_of_some _ e) (Nat.le_refl _) ?_,rfl,q _ hf⟩
  exact⟨z,us,r,⟨_,Heap.get?_push_size _ rfl,rfl,_,rfl⟩,_,Heap.get?_push_size _ rfl,rfl⟩
theorem ID (h:PA X es t):PE X (.List es pos) (K5 t):=by
  intro pins s σ H Q I hq
  refine wpAny_List_spliced (thn (h pos pins s σ H _ I hq) fun us s1 ⟨xs,H1,I1,r,z,q⟩=>⟨by rw [← r.length];exact z,?_⟩)
  have hf:H1 s1.heap.objs.size=none:=I1.hok.fresh (Nat.le_refl _)
  refine⟨.ref s1.heap.objs.size,upd H1 s1.heap.objs.size (.lst xs),I1.laid (t':=s1.toks) (fun b u e=>Heap.get?_push_of_some _ e) (Nat.le_refl _) ?_,rfl,q _ hf⟩
  exact⟨z,us,0,r,Heap.get?_push_size _ rfl⟩
end
abbrev Sp:=List V→Hp→VK→XK→Prop
abbrev CXT:=List Env→Hp→Shared→XK→Value→Shared→Prop
structure FZ (P:Program) (w:World) (K:PySem.W.Frag) (mg:Str→Option Value) (base:Heap) (A:Around) (outer:List Env) (s:Shared) (H:Hp):Prop where
  frames:A.frames=some outer
  mod:Mod K mg base
  bs:∀ b o,base.get? b=some o→s.heap.get? b=some o∧H b=none
  bsz:base.objs.size≤s.heap.objs.size
  funs:s.heap.FunFrames base outer
  frf:∀ b∈frs outer,H b=none
  hok:HOk P w H s.heap
  bare:AllBare s.gens
def CE (outer:List Env) (P:Program) (w:World) (H:Hp) (s:Shared) (Q:VK) (u:Value) (s':Shared):Prop :=
  ∃ v H',s'.os=s.os∧AllBare s'.gens∧Un (frs outer) [] H H' s.heap s'.heap∧HOk P w H' s'.heap∧bS v u∧Q v H'
def CR (CX:CXT) (outer:List Env) (P:Program) (w:World) (H:Hp) (s:Shared) (Q:VK) (E:XK) (r:Result) (s':Shared):Prop :=
  match r with
  | .ok (.ret u)=>CE outer P w H s Q u s'
  | .ok _=>False
  | .error e=>CX outer H s E e s'
structure cE (P:Program) (w:World) (K:PySem.W.Frag) (mg:Str→Option Value) (base:Heap) (CX:CXT) (k:Nat) (f:Addr) (fd:FuncData) (ps:List Str) (sp:Sp):Prop where
  len:∀ vs H Q E,sp vs H Q E→vs.length=ps.length
  run:∀ (A:Around) (outer:List Env) (s:Shared) (H:Hp) (args:Args) (us:List Value) (vs:List V) (Q:VK) (E:XK),ie k A→FZ P w K mg base A outer s H→BindsTo s fd args (ps.zip us)→aS vs us→sp vs H Q E →
    codeAny (model P w) A (.call (.ref f) args) (CR CX outer P w H s Q E) s
section
variable {X:Cx} {pins:List (Addr × Obj)} {σ:St} {H:Hp} {s s':Shared}
theorem Inv.env0 (I:Inv X pins σ H s):FZ X.prog X.w X.K X.mg X.base X.A X.stack s H :=
  ⟨I.ok.frames,I.ok.mod,I.bs,Nat.le_trans I.ok.bsz I.sz,I.stack,I.stkFree,I.hok,I.bare⟩
theorem Inv.after {Q:VK}{u:Value}(I:Inv X pins σ H s)(h:CE X.stack X.prog X.w H s Q u s'):EP X pins σ Q u s':=by
  obtain⟨v,H',os,bare,un,hok,r,q⟩:=h
  obtain⟨hh,g,d,t,os'⟩:=s'
  obtain rfl:os'=s.os:=os
  exact⟨v,H',I.call (h':=hh) (g':=g) (d':=d) (t':=t) (ch:=[]) un hok bare (fun b z=>absurd z (by simp)),r,q⟩
end
def J7 (sp:Sp) (dvs:List V) (E:XK) (t:TA):TE:=fun σ H Q=>t σ H fun vs H1=>sp (vs++dvs) H1 Q E
def oF (K:PySem.W.Frag) (fd:FuncData) (ps:List Str) (ds:List Value):Prop :=
  ∀ (s:Shared) (us:List Value),K.In s.heap→(us++ds).length=ps.length→BindsTo s fd ⟨us,[]⟩ (ps.zip (us++ds))
theorem oF.all {K:PySem.W.Frag}{fd:FuncData}{ps:List Str}(h:∀ us:List Value,us.length=ps.length→bindArgs fd ⟨us,[]⟩ = pure (ps.zip us)):oF K fd ps []:=fun s us _ hl=>by
  rw [List.append_nil] at hl ⊢
  exact .of_eq (h us hl)
def yx (CX:CXT) (X:Cx) (E:XK):Prop:=∀ (pins:List (Addr × Obj)) (σ:St) (H:Hp) (s:Shared) (e:Value) (s':Shared),Inv X pins σ H s→CX X.stack H s E e s'→X.xe e s'
section
variable {X:Cx} {CX:CXT} {k:Nat} {f C:Addr} {fd:FuncData} {ps:List Str} {sp:Sp} {dvs:List V} {ds:List Value} {E:XK} {x m:Str} {p pos apos:Pos} {e o:Expr} {es:List Expr} {ta:TE} {t:TA}
theorem IE {pins:List (Addr × Obj)}{σ:St}{H:Hp}{s:Shared}{Q:VK}{us:List Value}{vs:List V}(F:cE X.prog X.w X.K X.mg X.base CX k f fd ps sp)(hr:ie k X.A)(hb:oF X.K fd ps ds)(hd:aS dvs ds)(hx:yx CX X E)
    (I:Inv X pins σ H s) (r:aS vs us) (h:sp (vs++dvs) H Q E):wpAny (model X.prog X.w) X.A (call (.ref f) us) (EP X pins σ Q) X.xe s:=by
  have r2:aS (vs++dvs) (us++ds):=r.append hd
  have hl:(us++ds).length=ps.length:=by rw [← r2.length];exact F.len _ _ _ _ h
  refine wpAny_call (codeAny_mono (F.run X.A X.stack s H ⟨us,[]⟩ (us++ds) (vs++dvs) Q E hr I.env0 (hb s us I.kIn hl) r2 h) fun r s' hq => ?_)
  cases r with
  | error e=>exact hx pins σ H s e s' I hq
  | ok fl =>
    cases fl with
    | ret u=>exact I.after hq
    | next=>exact False.elim hq
    | brk=>exact False.elim hq
    | cont=>exact False.elim hq
theorem F3 (F:cE X.prog X.w X.K X.mg X.base CX k f fd ps sp)(hr:ie k X.A)(hg:Gl X x)(hm:X.mg x=some (.ref f))(hk:PySem.W.keepIn X.K (.ref f)=true)(hb:oF X.K fd ps ds)(hd:aS dvs ds)(hx:yx CX X E)
    (ha:PA X (e :: es) t) (hdb:(x == ("__debug__" : Str))=false:=by decide) (he:starEach (e :: es) X.env=(false,eval e X.env) :: starEach es X.env:=by rfl) (hpl:(backTo pos (starEach es X.env)).any (·.1)=false:=by rfl) :
    PE X (.Call (.Name x p) (e :: es) [] pos) (J7 sp dvs E t):=by
  intro pins s σ H Q I h
  refine wpAny_Call_Name_kw (FO I hg hm ?_ hdb)
  refine PySem.W.callWith_K (h₀ := X.base) I.ok.mod.kin hk (thn (ha pos pins s σ H _ I h) fun us s1 ⟨vs,H1,I1,r,q⟩=>⟨I1.kIn,?_⟩) he hpl
  exact IE F hr hb hd hx I1 r q
structure Mk (K:PySem.W.Frag) (C f:Addr):Prop where
  makes:PySem.W.makesIn K C=true
  init:PySem.W.findIn K (.ref C) "__init__" = some (some (.ref f))
  fn:PySem.W.isFn K (.ref f)=true
  kp:PySem.W.keepIn K (.ref C)=true
end
section
variable {X:Cx} {CX:CXT} {k:Nat} {f C:Addr} {fd:FuncData} {ps ks:List Str} {sp:Sp} {E:XK} {x m:Str} {p pos apos kpos:Pos} {e o:Expr} {es:List Expr} {kws:List Keyword} {te ta:TE} {t tk:TA} {nm:Option Str}
structure K6 (K:PySem.W.Frag) (fd:FuncData) (ps ks:List Str) (g:List Value→List Value→List Value) (gV:List V→List V→List V):Prop where
  to:∀ (s:Shared) (us ws:List Value),K.In s.heap→(g us ws).length=ps.length→BindsTo s fd ⟨us,ks.zip ws⟩ (ps.zip (g us ws))
  rel:∀ {vs:List V} {us:List Value} {zs:List V} {ws:List Value},aS vs us→aS zs ws→aS (gV vs zs) (g us ws)
variable {g:List Value→List Value→List Value} {gV:List V→List V→List V}
end
structure aY (N P:List Str) (sc:Scope):Prop where
  kind:sc.kind=.function
  co:sc.isCoroutine=false
  gen:sc.isGenerator=false
  nd:N.Nodup
  pre:N.take P.length=P
  par:∀ x∈P,sc.names.lookup x=some .local ∨sc.names.lookup x=some .cell
  nofree:∀ y∈sc.names,y.2 ≠ .free
theorem rZ {kindOf:Str→Option NameKind}{x:Str}:∀ {binds:List (Str × Value)} {m:Str→Option Value},(∀ v,(x,v)∉binds)→bindL kindOf binds m x=m x
  | [],_,_=>rfl
  | (n,v) :: r,m,h=>by
    unfold bindL
    rw [rZ fun w hw=>h w (List.mem_cons_of_mem _ hw)]
    split
    · have:x≠n:=by rintro rfl;exact h v List.mem_cons_self
      simp [this]
    · rfl
theorem se {kindOf:Str→Option NameKind}{x:Str}:∀ {binds:List (Str × Value)} {m:Str→Option Value},(∀ v,(x,v)∉binds)→bindC kindOf binds m x=m x
  | [],_,_=>rfl
  | (n,v) :: r,m,h=>by
    unfold bindC
    rw [se fun w hw=>h w (List.mem_cons_of_mem _ hw)]
    split
    · rfl
    · have:x≠n:=by rintro rfl;exact h v List.mem_cons_self
      simp [this]
theorem sf {kindOf:Str→Option NameKind}{x:Str}{v:Value}:∀ {P:List Str} {vs:List Value} {i:Nat} {m:Str→Option Value},P.Nodup→P[i]? = some x→vs[i]? = some v→kindOf x=some .local →
    bindL kindOf (P.zip vs) m x=some v
  | [],_,_,_,_,h,_,_=>by simp at h
  | _ :: _,[],_,_,_,_,h,_=>by simp at h
  | p :: P,w :: vs,0,m,nd,h1,h2,hk=>by
    simp at h1 h2;subst h1;subst h2
    show bindL kindOf ((p,w) :: P.zip vs) m p=_
    unfold bindL
    rw [rZ fun v hv=>(List.nodup_cons.mp nd).1 (List.of_mem_zip hv).1,if_pos hk]
    simp
  | p :: P,w :: vs,i + 1,m,nd,h1,h2,hk=>by
    show bindL kindOf ((p,w) :: P.zip vs) m x=_
    unfold bindL
    exact sf (i:=i) (List.nodup_cons.mp nd).2 (by simpa using h1) (by simpa using h2) hk
theorem sg {kindOf:Str→Option NameKind}{x:Str}{v:Value}:∀ {P:List Str} {vs:List Value} {i:Nat} {m:Str→Option Value},P.Nodup→P[i]? = some x→vs[i]? = some v→kindOf x≠some .local →
    bindC kindOf (P.zip vs) m x=some v
  | [],_,_,_,_,h,_,_=>by simp at h
  | _ :: _,[],_,_,_,_,h,_=>by simp at h
  | p :: P,w :: vs,0,m,nd,h1,h2,hk=>by
    simp at h1 h2;subst h1;subst h2
    show bindC kindOf ((p,w) :: P.zip vs) m p=_
    unfold bindC
    rw [se fun v hv=>(List.nodup_cons.mp nd).1 (List.of_mem_zip hv).1,if_neg hk]
    simp
  | p :: P,w :: vs,i + 1,m,nd,h1,h2,hk=>by
    show bindC kindOf ((p,w) :: P.zip vs) m x=_
    unfold bindC
    exact sg (i:=i) (List.nodup_cons.mp nd).2 (by simpa using h1) (by simpa using h2) hk
def iY (N:List Str) (vs:List V):St:=vs.map some++List.replicate (N.length - vs.length) none
def yy (CX:CXT) (P:Program) (w:World) (K:PySem.W.Frag) (mg:Str→Option Value) (base:Heap) (N:List Str) (qual:Str) (scope:Scope) (f:Addr) (cd:Value) (A:Around) (outer:List Env) (s:Shared) (H:Hp) (E:XK):Cx where
  prog:=P
  w:=w
  K:=K
  mg:=mg
  base:=base
  A:=A.deeper (envOfC qual scope s.heap.objs.size f cd)
  N:=N
  s₀ := s
  H₀ := H
  env:=envOfC qual scope s.heap.objs.size f cd
  outer:=outer
  stack:=envOfC qual scope s.heap.objs.size f cd :: outer
  ex:=[]
  calm:=true
  fn:=fun _=>true
  pn:=[]
  xe:=fun e s'=>wpAny (model P w) (A.deeper (envOfC qual scope s.heap.objs.size f cd)) (leaving (envOfC qual scope s.heap.objs.size f cd) e) (fun _ s''=>CX outer H s E e s'') (fun e' s''=>CX outer H s E e' s'') s'
theorem wn {sc:Scope}{n:Nat}{x:Str}(h:sc.names.lookup x=some .cell):∃ c,(cellsFrom n sc.names []).lookup x=some c:=by
  have q:=PySem.W.cellsFrom_some sc.names n [] (.inl h)
  exact Option.isSome_iff_exists.mp q
theorem BR {CX:CXT}{P:Program}{w:World}{K:PySem.W.Frag}{mg:Str→Option Value}{base:Heap}{N ps:List Str}{qual:Str}{scope:Scope}{f:Addr}{cd:Value}{A:Around}{outer:List Env}{s s1:Shared}{H:Hp}{E:XK}{us:List Value}{vs:List V}
    (S:aY N ps scope) (hd:A.handled=none) (e0:FZ P w K mg base A outer s H) (hl:vs.length=ps.length) (r:aS vs us)
    (x:InCallC s s.heap.objs.size (bindL (envOfC qual scope s.heap.objs.size f cd).kindOf (ps.zip us) fun _=>none) (cellsFrom (s.heap.objs.size + 1) scope.names []) (bindC (envOfC qual scope s.heap.objs.size f cd).kindOf (ps.zip us) fun _=>none) s1) :
    Inv (yy CX P w K mg base N qual scope f cd A outer s H E) [] (iY N vs) H s1:=by
  have hpl:ps.length≤N.length:=by have:=congrArg List.length S.pre;rw [List.length_take] at this;omega
  obtain⟨h1,tk,rfl,hk⟩:=x.done
  have noA:∀ b:Addr,b∉(yy CX P w K mg base N qual scope f cd A outer s H E).ex:=fun b z=>absurd (show b∈([] : List Addr) from z) (by simp)
  refine⟨⟨e0.mod,S.kind,rfl,rfl,Nat.le_refl _,fun y z c h1 h2 => ?_,fun y hy => ?_,fun y c _ h => ?_,fun _=>hd,Around.frames_deeper e0.frames,.inr ⟨rfl,rfl⟩,fun b z=>absurd z (noA b),e0.bs,e0.bsz,fun b _ _=>noA b,fun b z=>absurd z (noA b),e0.funs,e0.frf⟩,
    rfl,e0.bare,Un.kept hk,⟨_,x.toInCall.ns,fun i y v h1 h2 h3 => ?_⟩,fun y c h=>⟨_,x.cell y c h⟩,e0.hok.fresh (Nat.le_refl _),fun y c h => ?_,fun p hp=>absurd (show p∈([] : List (Addr × Obj)) from hp) (by simp),e0.hok.kept hk,?_⟩
  · exact name_of_addr x.apart (PySem.mem_of_lookup h1) (PySem.mem_of_lookup h2)
  · have hy:scope.names.lookup y=some .cell∨scope.names.lookup y=some .free:=hy
    rcases hy with hy|hy
    · exact wn hy
    · exact absurd rfl (S.nofree _ (PySem.mem_of_lookup hy))
  · exact Nat.le_of_lt (x.above y c (PySem.mem_of_lookup h))
  · have hi:i < vs.length:=by
      unfold iY at h2
      by_cases hi:i < vs.length
      · exact hi
      · rw [List.getElem?_append_right (by simpa using hi)] at h2
        rw [List.getElem?_replicate] at h2
        split at h2<;>cases h2
    have ha:vs[i]? = some v:=by
      unfold iY at h2
      rw [List.getElem?_append_left (by simpa using hi),List.getElem?_map] at h2
      cases e:vs[i]? with
      | none=>rw [e] at h2;cases h2
      | some a=>rw [e] at h2;cases h2;rfl
    obtain⟨u,hu,rv⟩:=r.get ha
    have hp:ps[i]? = some y:=by
      rw [← S.pre,List.getElem?_take_of_lt (by omega)];exact h1
    have ndP:ps.Nodup:=by rw [← S.pre];exact S.nd.sublist (List.take_sublist _ _)
    refine⟨u,rv,?_⟩
    rcases S.par y (List.mem_of_getElem? hp) with k|k
    · exact .inl ⟨k,sf ndP hp hu k⟩
    · obtain⟨c,e⟩:=wn (n:=s.heap.objs.size + 1) k
      refine .inr ⟨.inl k,c,e,?_⟩
      have q:=x.cell y c e
      rw [sg ndP hp hu (by show scope.names.lookup y≠_;rw [k];decide)] at q
      exact q
  · exact e0.hok.fresh (Nat.le_of_lt (x.above y c (PySem.mem_of_lookup h)))
  · unfold iY
    show _=N.length
    rw [List.length_append,List.length_map,List.length_replicate]
    omega
theorem J8 {CX:CXT}{P:Program}{w:World}{K:PySem.W.Frag}{mg:Str→Option Value}{base:Heap}{k:Nat}{f:Addr}{name qual:Str}{params:Arguments}{body:List Stmt}{scope:Scope}{dV kV doc pm cdv ct oc:Value}{an od:Option Addr}
    {osl:Array (Option Value)} {N ps:List Str} {sp:Sp} (lk:K.lookup f=some ⟨oc,od,.func (PySem.W.fnOf name qual params body scope dV kV doc pm an cdv ct),osl⟩) (hcd:PySem.W.codeIn K cdv qual=true) (S:aY N ps scope)
    (len:∀ vs H Q E,sp vs H Q E→vs.length=ps.length)
    (hbody:∀ (A:Around) (outer:List Env) (s:Shared) (H:Hp) (vs:List V) (Q:VK) (E:XK),ie k (A.deeper (envOfC qual scope s.heap.objs.size f cdv))→sp vs H Q E →
      ∃ t,PSs (yy CX P w K mg base N qual scope f cdv A outer s H E) body t∧t { nx:=fun _ H'=>Q .non H',rt:=Q } (iY N vs) H) :
    cE P w K mg base CX (k + 1) f (PySem.W.fnOf name qual params body scope dV kV doc pm an cdv ct) ps sp:=by
  refine⟨len,fun A outer s H args us vs Q E hr e0 hb r hsp => ?_⟩
  have hl:=len _ _ _ _ hsp
  have KX:K.In s.heap:=e0.mod.kin.keeps fun b o e=>(e0.bs b o e).1
  have lim:s.heap.NoLimit:=e0.mod.nolimit.keeps fun b o e=>(e0.bs b o e).1
  have hkind:∀ y∈ps.zip us,scope.names.lookup y.1=some .local ∨(scope.names.lookup y.1=some .cell∧((cellsFrom (s.heap.objs.size + 1) scope.names []).lookup y.1).isSome=true):=fun ⟨n,v⟩ hy=>by
    rcases S.par n (List.of_mem_zip hy).1 with q|q
    · exact .inl q
    · exact .inr ⟨q,PySem.W.cellsFrom_some _ _ _ (.inl q)⟩
  refine codeAny_call_function hr.depth (KX _ _ lk) rfl S.co S.gen rfl (PySem.W.codeRec_of KX hcd) (hb _ _ _ _ ?_)
  refine wpAny_newFunctionEnv_cells S.kind hkind fun env he s1 x => ?_
  subst he
  refine⟨lim.keeps x.toInCall.keep,codeAny_func ?_⟩
  obtain⟨t,ht,hq⟩:=hbody A outer s H vs Q E (hr.deeper _) hsp
  have I:Inv (yy CX P w K mg base N qual scope f cdv A outer s H E) [] (iY N vs) H s1:=BR S hr.hd e0 hl r x
  refine wpAny_mono (ht [] s1 (iY N vs) H _ I hq) (fun fl s' hs => ?_) fun e s' hs=>hs
  have fin:∀ {σ':St} {H':Hp} {v:V} {u:Value},Inv (yy CX P w K mg base N qual scope f cdv A outer s H E) [] σ' H' s'→bS v u→Q v H'→CE outer P w H s Q u s' :=
    fun {σ' H' v u} J rv q=>⟨v,H',J.os,J.bare,J.base,J.hok,rv,q⟩
  cases fl with
  | ret u =>
    obtain⟨v,σ',H',J,rv,q⟩:=hs
    exact fin J rv q
  | next =>
    obtain⟨σ',H',J,q⟩:=hs
    exact fin (v:=V.non) (u:=Value.none) J rfl q
  | brk =>
    obtain⟨_,_,_,q⟩:=hs
    exact False.elim q
  | cont =>
    obtain⟨_,_,_,q⟩:=hs
    exact False.elim q
end L2
namespace L2
open PySem PySem.Spec PyProof.Rows
section
variable {X:Cx} {x:Str} {p pos:Pos} {e:Expr} {es:List Expr} {t:TA} {id T:String} {r:List V→Hp→VK→Prop}
def tCB (r:List V→Hp→VK→Prop) (t:TA):TE:=fun σ H Q=>t σ H fun vs H1=>r vs H1 Q
theorem gM (hc:fA X (.builtin id) r) (hg:Gl X x) (hm:X.mg x=none) (hv:bootBuiltins x=some (.builtin id)) (ha:PA X (e :: es) t) (hn:x ≠ "__name__" := by decide) (hdb:(x == ("__debug__" : Str))=false:=by decide)
    (he:starEach (e :: es) X.env=(false,eval e X.env) :: starEach es X.env:=by rfl) (hpl:(backTo pos (starEach es X.env)).any (·.1)=false:=by rfl):PE X (.Call (.Name x p) (e :: es) [] pos) (tCB r t):=by
  intro pins s σ H Q I h
  refine wpAny_Call_Name_kw (ke I hg hm hv ?_ hn hdb)
  exact PyProof.Rows.callWith_builtin1 (thn (ha pos pins s σ H _ I h) fun us s1 ⟨vs,H1,I1,r1,q1⟩=>hc pins s1 σ H1 vs us Q I1 r1 q1) he hpl
theorem lF (hc:fA X (.type T) r) (hg:Gl X x) (hm:X.mg x=none) (hv:bootBuiltins x=some (.type T)) (ha:PA X (e :: es) t) (hn:x ≠ "__name__" := by decide) (hdb:(x == ("__debug__" : Str))=false:=by decide)
    (he:starEach (e :: es) X.env=(false,eval e X.env) :: starEach es X.env:=by rfl) (hpl:(backTo pos (starEach es X.env)).any (·.1)=false:=by rfl):PE X (.Call (.Name x p) (e :: es) [] pos) (tCB r t):=by
  intro pins s σ H Q I h
  refine wpAny_Call_Name_kw (ke I hg hm hv ?_ hn hdb)
  exact PyProof.Rows.callWith_type1 (thn (ha pos pins s σ H _ I h) fun us s1 ⟨vs,H1,I1,r1,q1⟩=>hc pins s1 σ H1 vs us Q I1 r1 q1) he hpl
end
end L2
namespace HT
open PySem PyProof.Rows
def bP:List Int→List Int→Bool
  | [],[]=>false
  | [],_ :: _=>true
  | _ :: _,[]=>false
  | x :: xs,y :: ys=>if x=y then bP xs ys else decide (x < y)
section
open PySem.SeqAt
open PySem.AutoSeq1 (wpAny_loadPart')
open PySem.MeetsSeq PySem.MeetsSeq2 PySem.MeetsSeq3
end
section
variable {prog:Program} {w:World} {A:Around} {E:Value→Shared→Prop} {s:Shared}
theorem cat_tup {t b:Addr}{vs ws:List Value}{Q:Value→Shared→Prop}(ht:IsTup s.heap t vs.toArray)(hb:IsTup s.heap b ws.toArray)(hv:vs≠[])
    (h1:ws=[]→Q (.ref t) s) (h2:ws≠[]→Q (.ref s.heap.objs.size) { s with heap:=s.heap.push { cls:=.type "tuple",data:=.seq (vs++ws).toArray } })
    (hsz:vs.length + ws.length≤sizeLine):wpAny (model prog w) A (binaryOp .Add (.ref t) (.ref b)) Q E s:=by
  obtain⟨⟨cls,dd,data,sl⟩,ho,hc,n,hd⟩:=id ht
  obtain⟨⟨cls2,dd2,data2,sl2⟩,ho2,hc2,n2,hd2⟩:=id hb
  simp only at hc hd hc2 hd2
  subst hc hd hc2 hd2
  have e:vs.toArray++ws.toArray=(vs++ws).toArray:=by simp
  by_cases hw:ws=[]
  · exact concat_meets ⟨_,ho,rfl⟩ ⟨_,ho2,rfl⟩ noFill_tuple_add seq_tuple_add PySem.F.slot_tuple_add PySem.F.entry_tuple_add (PySem.F.args_tuple_add_2 _ _)
      (tuple_addW1 t b vs.toArray ws.toArray n n2 dd dd2 sl sl2 (by simpa using hv) (by simp [hw])) ⟨ho,ho2,h1 hw⟩
  · refine concat_meets ⟨_,ho,rfl⟩ ⟨_,ho2,rfl⟩ noFill_tuple_add seq_tuple_add PySem.F.slot_tuple_add PySem.F.entry_tuple_add (PySem.F.args_tuple_add_2 _ _)
      (tuple_addW2 t b vs.toArray ws.toArray n n2 dd dd2 sl sl2 (by simpa using hv) (by simpa using hw) (by rw [List.size_toArray,List.size_toArray];exact hsz)) ⟨ho,ho2,?_⟩
    rw [e]
    exact h2 hw
def sIx (n d:Nat):Option Int→Nat
  | none=>d
  | some v=>if v < 0 then (v + (n:Int)).toNat else min v.toNat n
theorem IG (n d:Nat)(hd:d≤n)(o:Option Int):sIx n d o≤n:=by
  cases o with
  | none=>exact hd
  | some v =>
    show (if v < 0 then (v + (n:Int)).toNat else min v.toNat n)≤n
    by_cases hv:v < 0
    · rw [if_pos hv];omega
    · rw [if_neg hv];exact Nat.min_le_right _ _
theorem AY (v:Int)(n d:Nat):(if v < 0 then max (v + (n:Int)) 0 else min v (n:Int))=((sIx n d (some v):Nat):Int):=by
  show (if v < 0 then max (v + (n:Int)) 0 else min v (n:Int))=(((if v < 0 then (v + (n:Int)).toNat else min v.toNat n):Nat):Int)
  by_cases hv:v < 0
  · simp only [if_pos hv];omega
  · simp only [if_neg hv];omega
theorem yz (lo hi:Option Int)(n:Nat):Builtin.Slice.sliceAdjust lo hi 1 (n:Int)=(((sIx n 0 lo:Nat):Int),((sIx n n hi:Nat):Int)):=by
  have h1 : ¬ ((1:Int) < 0):=by omega
  unfold Builtin.Slice.sliceAdjust
  simp only [h1,if_false]
  refine Prod.ext ?_ ?_
  · cases lo with
    | none=>rfl
    | some v=>exact AY v n 0
  · cases hi with
    | none=>rfl
    | some v=>exact AY v n n
theorem yA (i j:Nat):Builtin.Slice.slicePlaces (i:Int) (j:Int) 1=j - i:=by
  unfold Builtin.Slice.slicePlaces
  have h1:(1:Int) > 0:=by omega
  simp only [h1,if_true,Int.ediv_one]
  split<;>omega
theorem oG {v:Value}{o:Option Int}{Q:Option Int→Shared→Prop}(p:IsPart v o)(h:Q o s):wpAny (model prog w) A (Builtin.Slice.slicePartIndex v) Q E s:=by
  cases p with
  | none=>exact slicePart_none h
  | int i t=>exact slicePart_int h
theorem gP {sl:Addr}{vl vu:Value}{lo hi:Option Int}{n:Nat}{Q:Int × Int × Nat→Shared→Prop}(hs:s.heap.IsSliceOf sl vl vu .none)(pl:IsPart vl lo)(pu:IsPart vu hi)
    (h:Q (((sIx n 0 lo:Nat):Int),1,sIx n n hi - sIx n 0 lo) s):wpAny (model prog w) A (Builtin.Slice.sliceApplied (.ref sl) (pure (n:Int))) Q E s:=by
  obtain⟨os,hos,hcs,hds⟩:=id hs
  unfold Builtin.Slice.sliceApplied Builtin.Slice.sliceFields
  refine wpAny_bind (wpAny_bind (wpAny_field hos hds (x:=vl) rfl (wpAny_bind (wpAny_field hos hds (x:=vu) rfl (wpAny_bind (wpAny_field hos hds (x:=.none) rfl (wpAny_pure ?_)))))))
  refine wpAny_bind (slicePart_none ?_)
  show wpAny _ _ (if ((1:Int) == 0)=true then _ else _) _ _ s
  rw [if_neg (by decide)]
  refine wpAny_bind (oG pl (wpAny_bind (oG pu (wpAny_bind (wpAny_pure ?_)))))
  show wpAny _ _ (match Builtin.Slice.sliceAdjust lo hi 1 (n:Int) with|(lo,hi)=>pure (lo,(1:Int),Builtin.Slice.slicePlaces lo hi 1)) _ _ s
  rw [yz lo hi n]
  show wpAny _ _ (pure (((sIx n 0 lo:Nat):Int),(1:Int),Builtin.Slice.slicePlaces ((sIx n 0 lo:Nat):Int) ((sIx n n hi:Nat):Int) 1)) _ _ s
  rw [yA]
  exact wpAny_pure h
theorem DD (xs:Array Value)(i k:Nat):((List.range k).filterMap fun (m:Nat)=>xs[((i:Int) + (m:Int) * 1).toNat]?).toArray=((xs.toList.drop i).take k).toArray:=by
  have e:(fun (m:Nat)=>xs[((i:Int) + (m:Int) * 1).toNat]?)=fun m=>xs[i + m]? := by
    funext m
    have:((i:Int) + (m:Int) * 1).toNat=i + m:=by omega
    rw [this]
  rw [e]
  have:=pick_run xs i k
  rw [List.filterMap_map] at this
  have e2:((fun x=>xs[x]?) ∘ fun x=>i + x)=fun m=>xs[i + m]? := rfl
  rw [e2] at this
  rw [this]
theorem getItem_tuple_cut {t sl:Addr}{items:Array Value}{vl vu:Value}{lo hi:Option Int}{Q:Value→Shared→Prop}(ht:IsTup s.heap t items)(hs:s.heap.IsSliceOf sl vl vu .none)(pl:IsPart vl lo)(pu:IsPart vu hi)
    (hw : ¬ (sIx items.size 0 lo=0∧sIx items.size items.size hi=items.size))
    (h:Q (.ref s.heap.objs.size) { s with heap:=s.heap.push { cls:=.type "tuple",data:=.seq ((items.toList.drop (sIx items.size 0 lo)).take (sIx items.size items.size hi - sIx items.size 0 lo)).toArray } })
    (hsz:items.size≤sizeLine):wpAny (model prog w) A (getItem (.ref t) (.ref sl)) Q E s:=by
  have htake:sizeOk (.seq ((items.toList.drop (sIx items.size 0 lo)).take (sIx items.size items.size hi - sIx items.size 0 lo)).toArray):=by
    show ((items.toList.drop (sIx items.size 0 lo)).take (sIx items.size items.size hi - sIx items.size 0 lo)).toArray.size≤sizeLine
    rw [List.size_toArray,List.length_take,List.length_drop,Array.length_toList]
    omega
  have hj:sIx items.size items.size hi≤items.size:=IG _ _ (Nat.le_refl _) hi
  obtain⟨os,hos,hcs,hds⟩:=id hs
  have hTs:s.TypeIs (.ref sl) "slice" := ⟨os,hos,hcs⟩
  unfold getItem
  try with_reducible refine wpAny_holding ?_
  first|refine wpAny_bind (wpAny_pure ?_)|skip
  refine wpAny_bind (wpAny_sequenceKey ht.typeIs (by decide) ?_)
  refine wpAny_bind (wpAny_callSpecial?_slot (name:=Str.ofString "__getitem__") ht.typeIs PyProof.Rows.slot_tuple_getitem
    (wpAny_call_entry PyProof.Rows.slot_tuple_getitem ht.typeIs entry_tuple_getitem ?_ (args_tuple_getitem _ _)))
  show wpAny _ _ (Builtin.Tuple.tupleItemsOf (.ref t) >>= _) _ _ s
  refine wpAny_bind (tupleItemsOf_ ht ?_)
  refine wpAny_bind (wpAny_typeOf hTs ?_)
  rw [if_pos (by decide)]
  refine wpAny_bind (gP hs pl pu ?_)
  have hno : ¬ ((((sIx items.size 0 lo:Nat):Int) == 0 && (1:Int) == 1 && (sIx items.size items.size hi - sIx items.size 0 lo) == items.size)=true):=by
    intro q
    rw [Bool.and_eq_true,Bool.and_eq_true] at q
    have q1:((sIx items.size 0 lo:Nat):Int)=0:=eq_of_beq q.1.1
    have q2:sIx items.size items.size hi - sIx items.size 0 lo=items.size:=eq_of_beq q.2
    exact hw ⟨by omega,by omega⟩
  show wpAny _ _ (if (((sIx items.size 0 lo:Nat):Int) == 0 && (1:Int) == 1 && (sIx items.size items.size hi - sIx items.size 0 lo) == items.size)=true then _ else _) _ _ s
  rw [if_neg hno,DD]
  first
    | exact wpAny_bind (m:=Builtin.Tuple.tupleExact _) (wpAny_newObj_type (wpAny_pure ⟨_,rfl,wpAny_pure h⟩) htake)
    | exact wpAny_bind (m:=Builtin.Tuple.tupleExact _) (wpAny_newObj_type (wpAny_bind (wpAny_pure (wpAny_pure ⟨_,rfl,wpAny_pure h⟩))) htake)
    | exact wpAny_bind (wpAny_bind (m:=Builtin.Tuple.tupleExact _) (wpAny_newObj_type (wpAny_pure (wpAny_pure ⟨_,rfl,wpAny_pure h⟩)) htake))
    | exact wpAny_bind (wpAny_bind (m:=Builtin.Tuple.tupleExact _) (wpAny_newObj_type (wpAny_pure ⟨_,rfl,wpAny_pure h⟩) htake))
end
end HT
namespace L2
open PySem PySem.Spec PyProof.Rows
abbrev TO:=St→Hp→(Option Int→Hp→Prop)→Prop
def PO (X:Cx) (e:Option Expr) (t:TO):Prop :=
  ∀ (pins:List (Addr × Obj)) (s:Shared) (σ:St) (H:Hp) (Q:Option Int→Hp→Prop),Inv X pins σ H s→t σ H Q →
    wpAny (model X.prog X.w) X.A (evalPart e X.env) (fun u s'=>∃ o H',Inv X pins σ H' s'∧IsPart u o∧Q o H') X.xe s
def F4:TO:=fun _ H Q=>Q none H
def J9 (t:TE):TO:=fun σ H Q=>t σ H fun x H1=>∃ i,x=.int i∧Q (some i) H1
theorem kf {ns:List Int}:∀ {us:List Value},aS (ns.map V.int) us→IntsAre us ns:=by
  induction ns with
  | nil=>intro us r;rw [List.map_nil] at r;cases r;exact .nil
  | cons n ns ih =>
    intro us r
    rw [List.map_cons] at r
    cases r with
    | cons r1 r2 =>
      obtain⟨t,e⟩:=r1
      subst e
      exact .cons n t (ih r2)
section
variable {X:Cx} {e:Expr} {te:TE} {lo hi:Option Expr} {tl th:TO} {pos p2:Pos}
theorem F8:PO X none F4:=by
  intro pins s σ H Q I h
  rw [evalPart_none]
  exact wpAny_pure ⟨none,H,I,.none,h⟩
theorem F9 (h:PE X e te):PO X (some e) (J9 te):=by
  intro pins s σ H Q I hw
  rw [evalPart_some]
  refine thn (h pins s σ H _ I hw) fun u s1 ⟨x,H1,I1,r1,q1⟩ => ?_
  obtain⟨i,rfl,q⟩:=q1
  obtain⟨t,rfl⟩:=r1
  exact⟨some i,H1,I1,.int i t,q⟩
def SlR (X:Cx) (r:V→Option Int→Option Int→Hp→VK→Prop):Prop :=
  ∀ (pins:List (Addr × Obj)) (s:Shared) (σ:St) (H:Hp) (x:V) (v vl vu:Value) (lo hi:Option Int) (sl:Addr) (Q:VK),Inv X pins σ H s→bS x v→s.heap.IsSliceOf sl vl vu .none→IsPart vl lo→IsPart vu hi→r x lo hi H Q →
    ∃ T id,typeLookup (.type T) "__getitem__" = pure (some (.builtin id))∧s.TypeIs v T∧wpAny (model X.prog X.w) X.A (getItem v (.ref sl)) (EP X pins σ Q) X.xe s
theorem SlR.or {r r':V→Option Int→Option Int→Hp→VK→Prop}(h:SlR X r)(h':SlR X r'):SlR X (fun x lo hi H Q=>r x lo hi H Q∨r' x lo hi H Q):=by
  intro pins s σ H x v vl vu lo hi sl Q I rx hs pl pu q
  rcases q with q|q
  · exact h pins s σ H x v vl vu lo hi sl Q I rx hs pl pu q
  · exact h' pins s σ H x v vl vu lo hi sl Q I rx hs pl pu q
def tSl (r:V→Option Int→Option Int→Hp→VK→Prop) (te:TE) (tl th:TO):TE:=fun σ H Q=>te σ H fun x H1=>tl σ H1 fun l H2=>th σ H2 fun u H3=>r x l u H3 Q
theorem wo {r:V→Option Int→Option Int→Hp→VK→Prop}(hr:SlR X r)(he:PE X e te)(hl:PO X lo tl)(hu:PO X hi th):PE X (.Subscript e (.Slice lo hi none p2) pos) (tSl r te tl th):=by
  intro pins s σ H Q I h
  refine Subscript_ (thn (he pins s σ H _ I h) fun v s1 ⟨x,H1,I1,r1,q1⟩ => ?_)
  refine wpAny_Slice (thn (hl pins s1 σ H1 _ I1 q1) fun vl s2 ⟨l,H2,I2,pl,q2⟩=>thn (hu pins s2 σ H2 _ I2 q2) fun vu s3 ⟨u,H3,I3,pu,q3⟩ => ?_)
  rw [evalPart_none]
  refine wpAny_pure ?_
  have I4:Inv X pins σ H3 { s3 with heap:=s3.heap.push { cls:=.type "slice",data:=.fields #[vl,vu,.none] } }:=I3.kept (t':=s3.toks) fun b ob q=>Heap.get?_push_of_some _ q
  obtain⟨T,id,hT,ht,hg⟩:=hr pins { s3 with heap:=s3.heap.push { cls:=.type "slice",data:=.fields #[vl,vu,.none] } } σ H3 x v vl vu l u s3.heap.objs.size Q I4 r1 (Heap.IsSliceOf.new ..) pl pu q3
  show wpAny (model X.prog X.w) X.A (subscriptTail e (.Slice lo hi none p2) v (.ref s3.heap.objs.size)) (EP X pins σ Q) X.xe { s3 with heap:=s3.heap.push { cls:=.type "slice",data:=.fields #[vl,vu,.none] } }
  exact tail_any (ops:=[.ref s3.heap.objs.size,v]) ht hT hg (by with_unfolding_all rfl)
def lG (xs:List V) (lo hi:Option Int):List V:=(xs.drop (HT.sIx xs.length 0 lo)).take (HT.sIx xs.length xs.length hi - HT.sIx xs.length 0 lo)
theorem m7 (xs:List V)(lo hi:Option Int):(lG xs lo hi).length≤xs.length:=by
  unfold lG
  rw [List.length_take,List.length_drop]
  omega
def K7 (K:PySem.W.Frag):V→Option Int→Option Int→Hp→VK→Prop:=fun x lo hi H Q=>∃ a xs,x=.ref a∧SqT K H a xs ∧
  ¬ (HT.sIx xs.length 0 lo=0∧HT.sIx xs.length xs.length hi=xs.length) ∧ ∀ p,H p=none→Q (.ref p) (upd H p (.tup (lG xs lo hi)))
theorem DE:SlR X (K7 X.K):=by
  intro pins s σ H x v vl vu lo hi sl Q I rx hs pl pu h
  obtain⟨a,xs,rfl,hx,hw,q⟩:=h
  cases rx
  obtain⟨its,r,ht,hz⟩:=I.tuple hx
  have hlen:its.toArray.size=xs.length:=by rw [List.size_toArray];exact r.length.symm
  refine⟨"tuple",_,PyProof.Rows.slot_tuple_getitem.lookup,ht.typeIs,?_⟩
  refine HT.getItem_tuple_cut ht hs pl pu (by rw [hlen];exact hw) ?_ (by rw [hlen];exact hz)
  rw [hlen]
  refine⟨.ref s.heap.objs.size,_,I.laid (t':=s.toks) (o:=.tup (lG xs lo hi)) (fun b ob q=>Heap.get?_push_of_some _ q) (Nat.le_refl _) ?_,rfl,q _ (I.hok.fresh (Nat.le_refl _))⟩
  exact⟨Nat.le_trans (m7 xs lo hi) hz,_,(r.drop (HT.sIx xs.length 0 lo)).take (HT.sIx xs.length xs.length hi - HT.sIx xs.length 0 lo),kc.new _ _⟩
def DF (K:PySem.W.Frag):R2:=fun x y H Q=>∃ a b xs ys,x=.ref a∧y=.ref b∧SqT K H a xs∧SqT K H b ys∧xs≠[]∧xs.length + ys.length≤sizeLine ∧
  (ys=[]→Q (.ref a) H)∧(ys≠[] → ∀ p,H p=none→Q (.ref p) (upd H p (.tup (xs++ys))))
theorem aS.nil_iff {xs:List V}{us:List Value}(r:aS xs us):us=[] ↔ xs=[]:=by
  cases r with
  | nil=>simp
  | cons _ _=>simp
theorem Ga:OpR X (binaryOp .Add) (DF X.K):=by
  intro pins s σ H x y v u Q I rx ry h
  obtain⟨a,b,xs,ys,rfl,rfl,ha,hb,hx,hz,q1,q2⟩:=h
  cases rx
  cases ry
  obtain⟨its,r1,p1,_⟩:=I.tuple ha
  obtain⟨its2,r2,p2,_⟩:=I.tuple hb
  refine HT.cat_tup p1 p2 (fun z=>hx (r1.nil_iff.mp z)) (fun z=>⟨.ref a,H,I,rfl,q1 (r2.nil_iff.mp z)⟩) (fun z => ?_) (by rw [← r1.length,← r2.length];exact hz)
  refine⟨.ref s.heap.objs.size,_,I.laid (t':=s.toks) (o:=.tup (xs++ys)) (fun b ob q=>Heap.get?_push_of_some _ q) (Nat.le_refl _) ?_,rfl,q2 (fun w=>z (r2.nil_iff.mpr w)) _ (I.hok.fresh (Nat.le_refl _))⟩
  exact⟨by rw [List.length_append];exact hz,_,r1.append r2,kc.new _ _⟩
end
end L2
namespace L2
open PySem PySem.Spec PyProof.Rows
def ixN (n:Nat) (i:Int):Option Nat:=if 0≤i then (if i < n then some i.toNat else none) else if -(n:Int)≤i then some (i + n).toNat else none
def atI {α : Type} (xs:List α) (i:Int):Option α := (ixN xs.length i).bind fun j=>xs[j]?
theorem AZ {n:Nat}{i:Int}{j:Nat}(h:ixN n i=some j):seqIndex? i n=some j∧j < n ∧ -(n:Int)≤i∧i < n:=by
  unfold ixN at h
  by_cases h0:0≤i
  · rw [if_pos h0] at h
    by_cases h1:i < n
    · rw [if_pos h1] at h
      have e:i.toNat=j:=Option.some.inj h
      exact⟨by rw [seqIndex_of h0 h1,e],by omega,by omega,h1⟩
    · rw [if_neg h1] at h;cases h
  · rw [if_neg h0] at h
    by_cases h1 : -(n:Int)≤i
    · rw [if_pos h1] at h
      have e:(i + n).toNat=j:=Option.some.inj h
      exact⟨by rw [seqIndex_neg (by omega) h1,e],by omega,h1,by omega⟩
    · rw [if_neg h1] at h;cases h
theorem tH {α : Type}{xs:List α}{i:Int}{v : α}(h:atI xs i=some v):∃ j,seqIndex? i xs.length=some j∧xs[j]? = some v∧j < xs.length ∧ -(xs.length:Int)≤i∧i < xs.length:=by
  unfold atI at h
  cases e:ixN xs.length i with
  | none=>rw [e] at h;cases h
  | some j =>
    rw [e] at h
    obtain⟨h1,h2,h3,h4⟩:=AZ e
    exact⟨j,h1,h,h2,h3,h4⟩
theorem cT {α : Type}{xs:List α}{j:Nat}{v : α}(h:xs[j]? = some v):atI xs (j:Int)=some v:=by
  have hj:j < xs.length:=(List.getElem?_eq_some_iff.mp h).1
  have e:ixN xs.length (j:Int)=some j:=by
    unfold ixN
    rw [if_pos (by omega),if_pos (by omega)];simp
  unfold atI;rw [e];exact h
def tI (b:Expr):Prop:=∀ o i,subscripted b false o i=operate [o,i] (getItem o i)
def IxR (X:Cx) (r:R2):Prop :=
  ∀ (value slice:Expr) (pins:List (Addr × Obj)) (s:Shared) (σ:St) (H:Hp) (x y:V) (v u:Value) (Q:VK),Inv X pins σ H s→bS x v→bS y u→r x y H Q →
    subscripted slice false v u=operate [v,u] (getItem v u)→wpAny (model X.prog X.w) X.A (subscriptTail value slice v u) (EP X pins σ Q) X.xe s
def MtR (X:Cx) (id:String) (r:V→List V→Hp→VK→Prop):Prop :=
  ∀ (pins:List (Addr × Obj)) (s:Shared) (σ:St) (H:Hp) (x:V) (xs:List V) (v:Value) (us:List Value) (Q:VK),Inv X pins σ H s→bS x v→aS xs us→r x xs H Q →
    wpAny (model X.prog X.w) X.A (call (.builtin id) (v :: us)) (EP X pins σ Q) X.xe s
section
variable {X:Cx} {a b:Expr} {ta tb:TE} {pos:Pos}
theorem IxR.or {r r':R2}(h:IxR X r)(h':IxR X r'):IxR X (fun x y H Q=>r x y H Q∨r' x y H Q):=by
  intro value slice pins s σ H x y v u Q I rx ry q hs
  rcases q with q|q
  · exact h value slice pins s σ H x y v u Q I rx ry q hs
  · exact h' value slice pins s σ H x y v u Q I rx ry q hs
theorem HL {r:R2}(hr:IxR X r)(ha:PE X a ta)(hb:PE X b tb)(hs:tI b):PE X (.Subscript a b pos) (tOp r ta tb):=by
  intro pins s σ H Q I h
  exact Subscript_ (Ix ha hb I h fun v u s2 x y H2 I2 rx ry q=>hr a b pins s2 σ H2 x y v u Q I2 rx ry q (hs _ _))
def Ka (K:PySem.W.Frag):R2:=fun x y H Q=>∃ p xs i v,x=.ref p∧y=.int i∧SqL K H p xs∧atI xs i=some v∧Q v H
def Kb (K:PySem.W.Frag):R2:=fun x y H Q=>∃ p xs i v,x=.ref p∧y=.int i∧SqT K H p xs∧atI xs i=some v∧Q v H
def Kc:R2:=fun x y H Q=>∃ z i c,x=.str z∧y=.int i∧z.length≤sizeLine∧atI z.cps.toList i=some c∧Q (.str ⟨#[c]⟩) H
theorem A0:IxR X (Ka X.K):=by
  intro value slice pins s σ H x y v u Q I rx ry h hs
  obtain⟨p,xs,i,z,rfl,rfl,hq,he,q⟩:=h
  cases rx
  obtain⟨t,rfl⟩:=ry
  obtain⟨its,r,pl,hz⟩:=I.list hq
  obtain⟨j,h1,h2,h3,h4,h5⟩:=tH he
  obtain⟨w,ew,rw'⟩:=r.get h2
  have hl:=r.length
  have hn:=oD
  have fin:EP X pins σ Q w s:=⟨z,H,I,rw',q⟩
  by_cases h0:0≤i
  · have hj:i.toNat=j:=by
      rw [seqIndex_of h0 h5] at h1
      exact Option.some.inj h1
    exact item_listR pl.isList h0 (by omega) (by rw [hj];simpa using ew) fin hs
  · have hj:(i + (its.toArray.size:Int)).toNat=j:=by
      rw [seqIndex_neg (by omega) h4] at h1
      rw [List.size_toArray,← hl]
      exact Option.some.inj h1
    exact subscriptTail_builtinR (x:=w) pl.isList.typeIs slot_list_getitem.lookup
      (wpAny_getItem_list_neg (Q:=fun r s'=>r=w∧EP X pins σ Q r s') pl.isList (by omega) (by rw [List.size_toArray]<;>omega) (by omega) (by rw [hj];simpa using ew) ⟨rfl,fin⟩) hs
theorem IH:IxR X (Kb X.K):=by
  intro value slice pins s σ H x y v u Q I rx ry h hs
  obtain⟨p,xs,i,z,rfl,rfl,hq,he,q⟩:=h
  cases rx
  obtain⟨t,rfl⟩:=ry
  obtain⟨its,r,pl,hz⟩:=I.tuple hq
  obtain⟨j,h1,h2,h3,h4,h5⟩:=tH he
  obtain⟨w,ew,rw'⟩:=r.get h2
  have hl:=r.length
  have hn:=oD
  have fin:EP X pins σ Q w s:=⟨z,H,I,rw',q⟩
  exact subscriptTail_builtinR (x:=w) pl.typeIs slot_tuple_getitem.lookup
    (getItem_tuple (j:=j) (Q:=fun r s'=>r=w∧EP X pins σ Q r s') pl (by omega) (by omega) (by rw [List.size_toArray,← hl];exact h1) (by simpa using ew) ⟨rfl,fin⟩) hs
theorem II:IxR X Kc:=by
  intro value slice pins s σ H x y v u Q I rx ry h hs
  obtain⟨z,i,c,rfl,rfl,hz,he,q⟩:=h
  obtain⟨t,rfl⟩:=rx
  obtain⟨t',rfl⟩:=ry
  obtain⟨j,h1,h2,h3,h4,h5⟩:=tH he
  have hl:z.cps.toList.length=z.length:=by simp [Str.length]
  rw [hl] at h1 h4 h5
  have hn:=oD
  exact tail_any (typeIs_str s z t) slot_str_getitem.lookup (getItem_str (c:=c) (by
    have e1:decide (i < -(2 ^ 63:Int))=false:=decide_eq_false (by omega)
    have e2:decide (i ≥ 2 ^ 63)=false:=decide_eq_false (by omega)
    rw [e1,e2,Bool.or_false]) (by rw [h1];simpa using h2) ⟨.str ⟨#[c]⟩,H,I.tok _,⟨_,rfl⟩,q⟩) hs
def rIx (K:PySem.W.Frag):R2:=fun x y H Q=>Ka K x y H Q∨Kb K x y H Q∨Kc x y H Q
theorem IJ:IxR X (rIx X.K):=A0.or (IH.or II)
theorem yB (its:List Value) (n j:Nat) (u:Value):Obj.mapSeq (·.setIfInBounds j u) { cls:=.type "list",data:=.seq its.toArray n } = { cls:=.type "list",data:=.seq (its.set j u).toArray n }:=by
  simp [Obj.mapSeq]
theorem Inv.lst {pins:List (Addr × Obj)}{σ:St}{H:Hp}{s:Shared}{p:Addr}{xs:List V}(I:Inv X pins σ H s)(h:H p=some (.lst xs)) :
    ∃ (its:List Value) (n:Nat),aS xs its∧s.heap.get? p=some { cls:=.type "list",data:=.seq its.toArray n } ∧ xs.length≤sizeLine:=by
  obtain⟨z,its,n,r,e⟩:=I.hok p _ h
  exact⟨its,n,r,e,z⟩
theorem Inv.lstUpd {pins:List (Addr × Obj)}{σ:St}{H:Hp}{s:Shared}{p:Addr}{xs ys:List V}{its its':List Value}{n n':Nat}{f:Obj→Obj}(I:Inv X pins σ H s)(h:H p=some (.lst xs))
    (ho:s.heap.get? p=some { cls:=.type "list",data:=.seq its.toArray n }) (hf:f { cls:=.type "list",data:=.seq its.toArray n } = { cls:=.type "list",data:=.seq its'.toArray n' }) (r:aS ys its') (hz:ys.length≤sizeLine) (t:Nat) :
    Inv X pins σ (upd H p (.lst ys)) { s with heap:=s.heap.update p f,toks:=t }:=by
  have e:(s.heap.update p f).get? p=some { cls:=.type "list",data:=.seq its'.toArray n' }:=by
    rw [Heap.get?_update_self f ho (by rw [hf]<;>rfl),hf]
  refine I.write (x:=p) (e:=p) (by rw [h];trivial) (.inl rfl) (fun b u hb q=>(Heap.get?_update_other _ _ (Ne.symm hb)).trans q) ⟨_,e⟩ ?_
  exact⟨hz,its',n',r,e⟩
def Kd:V→V→V→Hp→(Hp→Prop)→Prop:=fun o i v H Q=>∃ p xs k j,o=.ref p∧i=.int k∧H p=some (.lst xs)∧ixN xs.length k=some j∧Q (upd H p (.lst (xs.set j v)))
theorem DG:JX X Kd:=by
  intro pins s σ H o i v ov iv u Q I ro ri rv h
  obtain⟨p,xs,k,j,rfl,rfl,hp,hj,q⟩:=h
  cases ro
  obtain⟨t,rfl⟩:=ri
  obtain⟨its,n,r,ho,hz⟩:=I.lst hp
  obtain⟨h1,h2,h3,h4⟩:=AZ hj
  have hl:=r.length
  have hn:=oD
  have I':Inv X pins σ (upd H p (.lst (xs.set j v))) { s with heap:=s.heap.update p (Obj.mapSeq (·.setIfInBounds j u)) } :=
    I.lstUpd hp ho (yB its n j u) (r.set rv j) (by rw [List.length_set];exact hz) s.toks
  by_cases h0:0≤k
  · have hk:k.toNat=j:=by
      rw [seqIndex_of h0 h4] at h1
      exact Option.some.inj h1
    exact PySem.W.ki_setAt ho h0 (by omega) (by rw [List.size_toArray,← hl];exact h4) (by rw [hk];exact⟨_,I',q⟩)
  · have hk:(k + (its.toArray.size:Int)).toNat=j:=by
      rw [seqIndex_neg (by omega) h3] at h1
      rw [List.size_toArray,← hl]
      exact Option.some.inj h1
    exact PySem.W.ki_setBack ho (by omega) (by rw [List.size_toArray,← hl];exact h3) (by omega) (by rw [hk];exact⟨_,I',q⟩)
theorem tJ (lo hi:Option Int)(n:Nat):(sliceBounds lo hi none n).1=((HT.sIx n 0 lo:Nat):Int)∧(sliceBounds lo hi none n).2.1=((HT.sIx n n hi:Nat):Int)∧(sliceBounds lo hi none n).2.2=1:=by
  refine⟨?_,?_,rfl⟩
  · cases lo with
    | none=>simp [sliceBounds,HT.sIx]
    | some i =>
      simp only [sliceBounds,HT.sIx,Option.getD_none,show (1:Int) > 0 by decide,if_true]
      by_cases h:i < 0
      · simp only [h,if_true]<;>omega
      · simp only [h,if_false]<;>omega
  · cases hi with
    | none=>simp [sliceBounds,HT.sIx]
    | some i =>
      simp only [sliceBounds,HT.sIx,Option.getD_none,show (1:Int) > 0 by decide,if_true]
      by_cases h:i < 0
      · simp only [h,if_true]<;>omega
      · simp only [h,if_false]<;>omega
theorem qx (its:List Value)(lo hi:Option Int):slicePick its.toArray lo hi none=((its.drop (HT.sIx its.length 0 lo)).take (HT.sIx its.length its.length hi - HT.sIx its.length 0 lo)).toArray:=by
  obtain⟨h1,h2,h3⟩:=tJ lo hi its.toArray.size
  unfold slicePick
  rw [h1,h2,h3]
  simp only [sliceRange_one,pick_run,List.size_toArray]<;>rfl
def Ke (K:PySem.W.Frag):V→Option Int→Option Int→Hp→VK→Prop:=fun x lo hi H Q=>∃ a xs,x=.ref a∧SqL K H a xs ∧ ∀ p,H p=none→Q (.ref p) (upd H p (.lst (lG xs lo hi)))
theorem Gb:SlR X (Ke X.K):=by
  intro pins s σ H x v vl vu lo hi sl Q I rx hs pl pu h
  obtain⟨a,xs,rfl,hx,q⟩:=h
  cases rx
  obtain⟨its,r,ht,hz⟩:=I.list hx
  have hlen:=r.length
  refine⟨"list",_,slot_list_getitem.lookup,ht.isList.typeIs,?_⟩
  refine wpAny_getItem_list_slice ht.isList hs pl pu .none (by simp) ?_ (by rw [List.size_toArray]<;>omega)
  rw [qx,← hlen]
  refine⟨.ref s.heap.objs.size,_,I.laid (t':=s.toks) (o:=.lst (lG xs lo hi)) (fun b ob q=>Heap.get?_push_of_some _ q) (Nat.le_refl _) ?_,rfl,q _ (I.hok.fresh (Nat.le_refl _))⟩
  exact⟨Nat.le_trans (m7 xs lo hi) hz,_,0,(r.drop (HT.sIx xs.length 0 lo)).take (HT.sIx xs.length xs.length hi - HT.sIx xs.length 0 lo),Heap.get?_push_size _ rfl⟩
def fU:V→Bool
  | .non=>true
  | .bl _=>true
  | .int _=>true
  | .str _=>true
  | _=>false
def eqV:V→V→Bool
  | .non,.non=>true
  | .bl a,.bl b=>a == b
  | .bl a,.int b=>(if a then 1 else 0) == b
  | .int a,.bl b=>a == (if b then 1 else 0)
  | .int a,.int b=>a == b
  | .str a,.str b=>a == b
  | _,_=>false
theorem IK {A:Around}{s:Shared}{y x:V}{u v:Value}(ry:bS y u)(rx:bS x v)(fy:fU y=true)(fx:fU x=true):SeqAt.EqAt A s u v (eqV y x):=by
  cases y with
  | non =>
    cases ry
    cases x with
    | non=>cases rx;exact SeqAt.EqAt.same _
    | bl b=>cases rx;exact SeqAt.EqAt.none_bool b
    | int b=>obtain⟨t,rfl⟩:=rx;exact SeqAt.EqAt.none_int b t
    | str b=>obtain⟨t,rfl⟩:=rx;exact SeqAt.EqAt.none_str b t
    | _=>exact absurd (show false=true from fx) Bool.false_ne_true
  | bl a =>
    cases ry
    cases x with
    | non=>cases rx;exact SeqAt.EqAt.bool_none a
    | bl b=>cases rx;exact SeqAt.EqAt.bool_bool a b
    | int b=>obtain⟨t,rfl⟩:=rx;exact SeqAt.EqAt.bool_int a b t
    | str b=>obtain⟨t,rfl⟩:=rx;exact SeqAt.EqAt.bool_str a b t
    | _=>exact absurd (show false=true from fx) Bool.false_ne_true
  | int a =>
    obtain⟨t',rfl⟩:=ry
    cases x with
    | non=>cases rx;exact SeqAt.EqAt.int_none a t'
    | bl b=>cases rx;exact SeqAt.EqAt.int_bool a t' b
    | int b=>obtain⟨t,rfl⟩:=rx;exact SeqAt.EqAt.int_int a t' b t
    | str b=>obtain⟨t,rfl⟩:=rx;exact SeqAt.EqAt.int_str a t' b t
    | _=>exact absurd (show false=true from fx) Bool.false_ne_true
  | str a =>
    obtain⟨t',rfl⟩:=ry
    cases x with
    | non=>cases rx;exact SeqAt.EqAt.str_none a t'
    | bl b=>cases rx;exact SeqAt.EqAt.str_bool a t' b
    | int b=>obtain⟨t,rfl⟩:=rx;exact SeqAt.EqAt.str_int a t' b t
    | str b=>obtain⟨t,rfl⟩:=rx;exact SeqAt.EqAt.str_str a t' b t
    | _=>exact absurd (show false=true from fx) Bool.false_ne_true
  | _=>exact absurd (show false=true from fy) Bool.false_ne_true
def eqU (x:V) (u:Value):Bool:=match u with
  | .none=>eqV .non x
  | .bool b=>eqV (.bl b) x
  | .int i _=>eqV (.int i) x
  | .str z _=>eqV (.str z) x
  | _=>false
theorem yC {x y:V}{u:Value}(r:bS y u)(f:fU y=true):eqU x u=eqV y x:=by
  cases y with
  | non=>cases r;rfl
  | bl b=>cases r;rfl
  | int i=>obtain⟨t,rfl⟩:=r;rfl
  | str z=>obtain⟨t,rfl⟩:=r;rfl
  | _=>exact absurd (show false=true from f) Bool.false_ne_true
theorem kG {x:V}:∀ {xs:List V} {us:List Value},aS xs us→xs.all fU=true→us.any (eqU x)=xs.any fun y=>eqV y x
  | _,_,.nil,_=>rfl
  | y :: xs,u :: us,.cons r t,f=>by
    rw [List.all_cons,Bool.and_eq_true] at f
    rw [List.any_cons,List.any_cons,yC r f.1,kG t f.2]
theorem fV {A:Around}{s:Shared}{x:V}{v:Value}(rx:bS x v)(fx:fU x=true):∀ {xs:List V} {us:List Value},aS xs us→xs.all fU=true → ∀ u∈us,SeqAt.EqAt A s u v (eqU x u)
  | _,_,.nil,_=>fun u hu=>by cases hu
  | y :: xs,u :: us,.cons r t,f=>fun u' hu=>by
    rw [List.all_cons,Bool.and_eq_true] at f
    rcases List.mem_cons.mp hu with rfl|hu
    · rw [yC r f.1];exact IK r rx f.1 fx
    · exact fV rx fx t f.2 u' hu
def inV (x:V) (xs:List V):Bool:=xs.any fun y=>eqV y x
def rIn (K:PySem.W.Frag) (neg:Bool):R2:=fun x y H Q=>∃ p xs,y=.ref p∧(SqL K H p xs∨SqT K H p xs)∧fU x=true∧xs.all fU=true∧Q (.bl (if neg then !inV x xs else inV x xs)) H
theorem jJ:OpR X (compareOp .In) (rIn X.K false):=by
  intro pins s σ H x y v u Q I rx ry h
  obtain⟨p,xs,rfl,hq,fx,fs,q⟩:=h
  cases ry
  rcases hq with hq|hq
  · obtain⟨its,r,pl,hz⟩:=I.list hq
    refine SeqAt.in_listAt (eqU x) pl.isList (fun w hw=>fV rx fx r fs w (by simpa using hw)) ⟨.bl _,H,I,rfl,?_⟩
    rw [show its.toArray.any (eqU x)=its.any (eqU x) by simp,kG r fs]
    exact q
  · obtain⟨its,r,pl,hz⟩:=I.tuple hq
    refine SeqAt.in_tupleAt (eqU x) pl (fun w hw=>fV rx fx r fs w (by simpa using hw)) ⟨.bl _,H,I,rfl,?_⟩
    rw [show its.toArray.any (eqU x)=its.any (eqU x) by simp,kG r fs]
    exact q
theorem tK:OpR X (compareOp .NotIn) (rIn X.K true):=by
  intro pins s σ H x y v u Q I rx ry h
  obtain⟨p,xs,rfl,hq,fx,fs,q⟩:=h
  cases ry
  rcases hq with hq|hq
  · obtain⟨its,r,pl,hz⟩:=I.list hq
    refine SeqAt.notIn_listAt (eqU x) pl.isList (fun w hw=>fV rx fx r fs w (by simpa using hw)) ⟨.bl _,H,I,rfl,?_⟩
    rw [show its.toArray.any (eqU x)=its.any (eqU x) by simp,kG r fs]
    exact q
  · obtain⟨its,r,pl,hz⟩:=I.tuple hq
    refine SeqAt.notIn_tupleAt (eqU x) pl (fun w hw=>fV rx fx r fs w (by simpa using hw)) ⟨.bl _,H,I,rfl,?_⟩
    rw [show its.toArray.any (eqU x)=its.any (eqU x) by simp,kG r fs]
    exact q
theorem tL:fA X (.builtin "len") (fun xs H Q=>∃ p ys,xs=[.ref p]∧(SqL X.K H p ys∨SqT X.K H p ys)∧Q (.int ys.length) H):=by
  intro pins s σ H xs us Q I r h
  obtain⟨p,ys,rfl,hq,q⟩:=h
  obtain⟨u,rfl,rx⟩:=wm r
  cases rx
  have hn:=oD
  rcases hq with hq|hq
  · obtain⟨its,r',pl,hz⟩:=I.list hq
    have hlen:=r'.length
    exact Calls.call_len_list pl.isList (by simp only [List.size_toArray]<;>omega) ⟨.int ys.length,H,I.tok _,⟨s.toks + 1,by rw [List.size_toArray,hlen]⟩,q⟩
  · obtain⟨its,r',pl,hz⟩:=I.tuple hq
    have hlen:=r'.length
    exact len_tuple pl (by simp only [List.size_toArray]<;>omega) ⟨.int ys.length,H,I.tok _,⟨s.toks + 1,by rw [List.size_toArray,hlen]⟩,q⟩
theorem tM:fA X (.type "list") (fun xs H Q=>∃ p ys,xs=[.ref p]∧(SqL X.K H p ys∨SqT X.K H p ys) ∧ ∀ l,H l=none→Q (.ref l) (upd H l (.lst ys))):=by
  intro pins s σ H xs us Q I r h
  obtain⟨p,ys,rfl,hq,q⟩:=h
  obtain⟨u,rfl,rx⟩:=wm r
  cases rx
  have fin:∀ (its:List Value),aS ys its→ys.length≤sizeLine → ∀ (h':Heap) (c':Nat),(∀ b o',s.heap.get? b=some o'→h'.get? b=some o') →
      h'.get? s.heap.objs.size=some { cls:=.type "list",dict:=none,data:=.seq its.toArray c',slots := #[] } → EP X pins σ Q (.ref s.heap.objs.size) { s with heap:=h' }:=fun its r' hz h' c' kp e =>
    ⟨.ref s.heap.objs.size,_,I.laid (t':=s.toks) kp (Nat.le_refl _) (show fR X.prog X.w _ h' _ (.lst ys) from ⟨hz,its,c',r',e⟩),rfl,q _ (I.hok.fresh (Nat.le_refl _))⟩
  rcases hq with hq|hq
  · obtain⟨its,r',pl,hz⟩:=I.list hq
    have hlen:=r'.length
    obtain⟨o,ho,hc,n,hd⟩:=pl.isList
    exact call_list_seq p (.inl rfl) ho hc hd (fun h' c' kp e=>fin its r' hz h' c' kp e) (by simp only [List.size_toArray]<;>omega)
  · obtain⟨its,r',pl,hz⟩:=I.tuple hq
    have hlen:=r'.length
    obtain⟨o,ho,hc,n,hd⟩:=pl
    exact call_list_seq p (.inr rfl) ho hc hd (fun h' c' kp e=>fin its r' hz h' c' kp e) (by simp only [List.size_toArray]<;>omega)
theorem qy:fA X (.type "tuple") (fun xs H Q=>∃ p ys,xs=[.ref p]∧((SqL X.K H p ys ∧ ∀ l,H l=none→Q (.ref l) (upd H l (.tup ys)))∨(SqT X.K H p ys∧Q (.ref p) H))):=by
  intro pins s σ H xs us Q I r h
  obtain⟨p,ys,rfl,h⟩:=h
  obtain⟨u,rfl,rx⟩:=wm r
  cases rx
  rcases h with ⟨hq,q⟩|⟨hq,q⟩
  · obtain⟨its,r',pl,hz⟩:=I.list hq
    have hlen:=r'.length
    refine call_tuple_list pl.isList (fun h' kp => ?_) (by simp only [List.size_toArray]<;>omega)
    have I1:Inv X pins σ H { s with heap:=h' }:=I.kept (t':=s.toks) kp
    have I2:Inv X pins σ (upd H h'.objs.size (.tup ys)) { s with heap:=h'.push { cls:=.type "tuple",data:=.seq its.toArray } } :=
      I1.laid (t':=s.toks) (fun b o e=>Heap.get?_push_of_some _ e) (Nat.le_refl _) (show fR X.prog X.w _ _ _ (.tup ys) from ⟨hz,its,r',kc.new _ _⟩)
    exact⟨.ref h'.objs.size,_,I2,rfl,q _ (I1.hok.fresh (Nat.le_refl _))⟩
  · obtain⟨its,r',pl,hz⟩:=I.tuple hq
    exact call_tuple_same pl ⟨.ref p,H,I,rfl,q⟩
def tyV (K:PySem.W.Frag) (T:String) (x:V) (H:Hp):Prop:=match x with
  | .str _=>T = "str"
  | .int _=>T = "int"
  | .ref p=>(T = "list" ∧ ∃ xs,SqL K H p xs)∨(T = "tuple" ∧ ∃ o,K.lookup p=some o∧o.cls=.type "tuple" ∧ o.dict=none) ∨
      (T = "dict" ∧ ((∃ kvs,H p=some (.dK kvs)) ∨ ∃ kvs,H p=some (.dT kvs)))∨(T = "set" ∧ ∃ S n,H p=some (.set S n))
  | _=>False
theorem IL {pins:List (Addr × Obj)}{σ:St}{H:Hp}{s:Shared}{T:String}{x:V}{v:Value}(I:Inv X pins σ H s)(r:bS x v)(ty:tyV X.K T x H) :
    s.TypeIs v T ∧ ∀ a,v=.ref a → ∃ ob,s.heap.get? a=some ob∧ob.dict=none:=by
  cases x with
  | str z =>
    obtain⟨t,rfl⟩:=r
    cases (show T = "str" from ty)
    exact⟨typeIs_str s z t,fun _ e=>nomatch e⟩
  | int i =>
    obtain⟨t,rfl⟩:=r
    cases (show T = "int" from ty)
    exact⟨typeIs_int s i t,fun _ e=>nomatch e⟩
  | ref p =>
    cases r
    rcases ty with ⟨rfl,xs,hq⟩|⟨rfl,o,hk,hc,hd⟩|⟨rfl,hk⟩|⟨rfl,S,n,hk⟩
    · obtain⟨its,_,pl,_⟩:=I.list hq
      refine⟨pl.isList.typeIs,fun a e => ?_⟩
      cases e
      obtain⟨o,n,e,c,hd,_⟩:=pl
      exact⟨o,e,hd⟩
    · refine⟨⟨o,I.kIn p o hk,hc⟩,fun a e => ?_⟩
      cases e
      exact⟨o,I.kIn _ o hk,hd⟩
    · have z:∃ o,s.heap.get? p=some o∧o.ExactDict:=by
        rcases hk with ⟨kvs,hk⟩|⟨kvs,hk⟩
        · obtain⟨_,_,_,_,o,_,_,e,ex,_⟩:=I.hok p _ hk
          exact⟨o,e,ex⟩
        · obtain⟨_,_,_,_,o,_,_,e,ex,_⟩:=I.hok p _ hk
          exact⟨o,e,ex⟩
      obtain⟨o,e,ex⟩:=z
      refine⟨⟨o,e,ex.1⟩,fun a e2 => ?_⟩
      cases e2
      exact⟨o,e,ex.2.1⟩
    · obtain⟨o,_,_,_,e,ex,_⟩:=I.hok p _ hk
      refine⟨⟨o,e,ex.1⟩,fun a e2 => ?_⟩
      cases e2
      exact⟨o,e,ex.2.1⟩
  | _=>exact False.elim ty
def tBM (K:PySem.W.Frag) (T:String) (r:V→List V→Hp→VK→Prop) (to:TE) (t:TA):TE:=fun σ H Q=>to σ H fun x H1=>tyV K T x H1∧t σ H1 fun xs H2=>r x xs H2 Q
variable {o e:Expr} {es:List Expr} {to:TE} {t:TA} {name:Str} {apos cpos:Pos} {T id:String} {r:V→List V→Hp→VK→Prop}
theorem HM (pa:PlainAttrs T) (slot:Slot T name id) (hty:typeOf (.builtin id)=pure (.type "method_descriptor")) (hm:MtR X id r) (ho:PE X o to) (ha:PA X (e :: es) t)
    (hbase:attributeBase o name X.env (eval o X.env)=eval o X.env:=by rfl)
    (hfew:((backTo cpos (starEach (e :: es) X.env)).all (fun x => !x.1) && (backToKw cpos (keywordEach [] X.env)).all (fun x=>x.1.isSome)
      && decide ((e :: es).length + ([] : List Keyword).length + (if ([] : List Keyword).isEmpty then 0 else 1) < 30))=true:=by rfl)
    (hline:(apos.endLine == cpos.line)=true:=by rfl) (hs:starEach (e :: es) X.env=(false,eval e X.env) :: starEach es X.env:=by rfl) (hplain:(backTo cpos (starEach es X.env)).any (·.1)=false:=by rfl) :
    PE X (.Call (.Attribute o name apos) (e :: es) [] cpos) (tBM X.K T r to t):=by
  intro pins s σ H Q I h
  refine wpAny_Call_method_late hbase hfew hline rfl (thn (ho pins s σ H _ I h) fun v s1 ⟨x,H1,I1,r1,ty,q1⟩ => ?_)
  obtain⟨h1,h2⟩:=IL I1 r1 ty
  refine⟨T,id,pa,slot,hty,h1,h2,?_⟩
  have hA:=ha cpos pins s1 σ H1 _ I1 q1
  rw [hs] at hA ⊢
  refine Calls.callWith_builtin (by show (false || (backTo cpos (starEach es X.env)).any (·.1))=false;rw [hplain]<;>rfl) (Calls.evalArgs_plain ?_)
  exact thn hA fun us s2 ⟨vs,H2,I2,r2,q2⟩=>hm pins s2 σ H2 x vs v us Q I2 r1 r2 q2
end
end L2
namespace L2
open PySem PySem.Spec PyProof.Rows
def MtM (X:Cx) (id:String) (r:V→List V→Hp→VK→Prop):Prop :=
  ∀ (pins:List (Addr × Obj)) (s:Shared) (σ:St) (H:Hp) (x:V) (xs:List V) (v:Value) (us:List Value) (Q:VK),Inv X pins σ H s→bS x v→aS xs us→r x xs H Q →
    wpAny (model X.prog X.w) X.A (call (.builtin id) (v :: us)) (EP X pins σ Q) X.xe s
theorem aS.one:∀ {x:V} {us:List Value},aS [x] us → ∃ u,us=[u]∧bS x u
  | _,_,.cons r .nil=>⟨_,rfl,r⟩
theorem aS.two:∀ {x y:V} {us:List Value},aS [x,y] us → ∃ u v,us=[u,v]∧bS x u∧bS y v
  | _,_,_,.cons r (.cons q .nil)=>⟨_,_,rfl,r,q⟩
theorem aS.rep {xs:List V}{us:List Value}(h:aS xs us):∀ k:Nat,aS (List.replicate k xs).flatten (List.replicate k us).flatten
  | 0=>.nil
  | k + 1=>by
    rw [List.replicate_succ,List.replicate_succ,List.flatten_cons,List.flatten_cons]
    exact aS.append h (aS.rep h k)
theorem si (its:List Value):∀ (k:Nat) (acc:List Value),
    List.foldl (fun x1 x2=>x1++x2) acc.toArray (List.replicate k its.toArray)=(acc++(List.replicate k its).flatten).toArray
  | 0,acc=>by simp
  | k + 1,acc=>by
    have e:acc.toArray++its.toArray=(acc++its).toArray:=by simp
    have e2:(acc++its)++(List.replicate k its).flatten=acc++(List.replicate (k + 1) its).flatten:=by
      rw [List.replicate_succ,List.flatten_cons,List.append_assoc]
    rw [← e2,← si its k (acc++its),← e,List.replicate_succ,List.foldl_cons]
section
variable {X:Cx} {pins:List (Addr × Obj)} {σ:St} {H:Hp} {s:Shared} {l b:Addr} {xs ys zs:List V}
theorem Inv.lset {its its':List Value}{n:Nat}{f:Array Value→Array Value}{t':Nat}(I:Inv X pins σ H s)(hH:H l=some (.lst xs))
    (e:s.heap.get? l=some { cls:=.type "list",data:=.seq its.toArray n }) (hf:f its.toArray=its'.toArray) (hv:aS ys its') (hz:ys.length≤sizeLine) :
    Inv X pins σ (upd H l (.lst ys)) { s with heap:=s.heap.update l (Obj.mapSeq f),toks:=t' }:=by
  have q:=PySem.IsL.update e f
  rw [hf] at q
  refine I.write (x:=l) (e:=l) (by rw [hH];exact trivial) (.inl rfl) (fun b' u hb hu=>(Heap.get?_update_other s.heap (Obj.mapSeq f) (Ne.symm hb)).trans hu) ⟨_,q⟩ ?_
  exact⟨hz,its',_,hv,q⟩
theorem Inv.lnew {its:List Value}{t':Nat}(I:Inv X pins σ H s)(hv:aS ys its)(hz:ys.length≤sizeLine) :
    Inv X pins σ (upd H s.heap.objs.size (.lst ys)) { s with heap:=s.heap.push { cls:=.type "list",data:=.seq its.toArray },toks:=t' } :=
  I.laid (fun _ _ q=>Heap.get?_push_of_some _ q) (Nat.le_refl _) ⟨hz,its,0,hv,Heap.get?_push_size _ rfl⟩
theorem Inv.fresh (I:Inv X pins σ H s):H s.heap.objs.size=none:=I.hok.fresh (Nat.le_refl _)
theorem Inv.lstM (I:Inv X pins σ H s) (hH:H l=some (.lst xs)):xs.length≤sizeLine ∧ ∃ (its:List Value) (n:Nat),aS xs its∧xs.length=its.length∧s.heap.get? l=some { cls:=.type "list",data:=.seq its.toArray n }:=by
  obtain⟨z,its,n,r,e⟩:=I.hok l _ hH
  exact⟨z,its,n,r,r.length,e⟩
end
section
variable {X:Cx}
def Gc:V→List V→Hp→VK→Prop:=fun x vs H Q=>∃ l xs y,x=.ref l∧vs=[y]∧H l=some (.lst xs)∧xs.length < sizeLine∧Q .non (upd H l (.lst (xs++[y])))
theorem sj:MtM X "list.append" Gc:=by
  intro pins s σ H x vs v us Q I rx rv h
  obtain⟨l,xs,y,rfl,rfl,hH,hz,q⟩:=h
  cases rx
  obtain⟨u,rfl,ru⟩:=rv.one
  obtain⟨z,its,n,r,hl,e⟩:=I.lstM hH
  refine call_meets F.slot_list_append ⟨_,e,rfl⟩ F.entry_list_append (F.args_list_append_2 _ _) (PySem.list_append l its.toArray n u (by rw [List.size_toArray];omega)) ⟨e,?_⟩
  refine⟨.non,_,I.lset (its':=its++[u]) hH e (by simp) (r.append (.cons ru .nil)) ?_,rfl,q⟩
  rw [List.length_append,List.length_singleton]
  omega
def K8:R2:=fun x y H Q=>∃ l b xs zs,x=.ref l∧y=.ref b∧H l=some (.lst xs)∧H b=some (.lst zs)∧xs.length + zs.length≤sizeLine ∧ ∀ p,H p=none→Q (.ref p) (upd H p (.lst (xs++zs)))
theorem IM:OpR X (binaryOp .Add) K8:=by
  intro pins s σ H x y v u Q I rx ry h
  obtain⟨l,b,xs,zs,rfl,rfl,hH,hB,hz,q⟩:=h
  cases rx
  cases ry
  obtain⟨z,its,n,r,hl,e⟩:=I.lstM hH
  obtain⟨z2,its2,n2,r2,hl2,e2⟩:=I.lstM hB
  refine PySem.P.add_list e e2 ?_ (by rw [List.size_toArray,List.size_toArray];omega)
  have ea:its.toArray++its2.toArray=(its++its2).toArray:=by simp
  rw [ea]
  exact⟨.ref _,_,I.lnew (t':=s.toks) (r.append r2) (by rw [List.length_append];omega),rfl,q _ I.fresh⟩
theorem Ge {α : Type}(xs:List α)(k:Nat):(List.replicate k xs).flatten.length=k * xs.length:=by
  induction k with
  | zero=>simp
  | succ k ih=>rw [List.replicate_succ,List.flatten_cons,List.length_append,ih,Nat.succ_mul,Nat.add_comm]
end
section
variable {prog:Program} {w:World} {A:Around} {E:Value→Shared→Prop} {s:Shared}
end
section
variable {X:Cx}
end
end L2
namespace Att
open PySem PySem.W PySem.Calls PyProof.Rows
theorem nR {P:Params}{h:Heap}:∀ (ns:List Int) (vs:List Value),WellAll P h vs (ns.map WData.int)→IntsAre vs ns:=by
  intro ns
  induction ns with
  | nil =>
    intro vs w
    rw [List.map_nil] at w
    cases w
    exact .nil
  | cons n ns ih =>
    intro vs w
    rw [List.map_cons] at w
    cases w with
    | cons a b =>
      cases a
      exact .cons _ _ (ih _ b)
theorem BS {l:OpenLaw}{n:Nat}(hn:l.most=some n){P:Params}{h:Heap}{args:List WData}{vals:List Value}
    (hpre:l.row.toRowW.claim.pre args=true) (hwl:WellAll P h vals args) :
    ∃ a vs ns,vals=[Value.ref a]∧args=[WData.list (ns.map WData.int)]∧h.get? a=some { cls:=.type "list",data:=.seq vs.toArray } ∧ IntsAre vs ns∧ns.length≤n:=by
  have hsh:WShape.hasAll [] args [.list .int] = true:=(pre_splitW hpre).1
  have hc:l.pre.holds [] { args:=args } = true:=(pre_splitW hpre).2
  obtain⟨d,r,rfl,h1,h2⟩:=hasAllW_cons hsh
  obtain rfl:=hasAllW_nil h2
  obtain⟨xs,rfl,h3⟩:=hasW_list h1
  obtain⟨ns,rfl⟩:=items_int h3
  have hlen:ns.length≤n:=by
    unfold OpenLaw.pre at hc
    have h4:(WTm.not (.lt (.lit (.int (n:Int))) (.len (.arg 0)))).holds [] { args:=[.list (ns.map .int)] } = true:=by
      have h4:=(holds_andW hc).1
      rw [hn] at h4
      exact h4
    have h5:=condW_of h4 (w_not (w_lt w_lit (w_len_list (w_arg rfl))))
    rw [List.length_map] at h5
    refine Nat.le_of_not_lt fun q => ?_
    have q':(n:Int) < ((ns.length:Nat):Int):=by omega
    first
      | (rw [decide_eq_true q'] at h5;exact absurd h5 (by decide))
      | (simp at h5;omega)
  cases hwl with
  | cons w1 w2 =>
    cases w2
    cases w1 with
    | list ho hall=>exact⟨_,_,ns,rfl,rfl,ho,nR ns _ hall,hlen⟩
theorem BT (l:OpenLaw)(args:List WData):l.row.toRowW.claim.post args (.bool true) args=true :=
  postW_of (r:=l.row.toRowW) (X:=(true == true))
    (show WShape.has [] (.bool true) .bool=true by first|rfl|decide|simp [WShape.has,WShape.arms,WShape.armsAll])
    (show (WTm.eq .res (.lit (.bool true))).value [] { args:=args,res:=some (.bool true),after:=args } = some (.bool (true == true)) from w_eq_bool (w_res rfl) w_lit) rfl
theorem attach_call {l:OpenLaw}{n:Nat}{q:Program}{loose:List Str}{XP:(Str→Option Value)→Heap→Prop}{YP:World→Heap→Prop}{d:DefRec}
    (hn:l.most=some n) (hdf:d.params.defaults=[])
    (call:∀ (w:World) (s₀ s₁ : Shared) (mg mb:Str→Option Value) (fa:Addr) (o:Obj) (pm cd doc:Value) (a:Addr) (vs:List Value) (ns:List Int),
      Ground q loose [] XP w s₀ mg mb s₁.heap→YP w s₁.heap →
      s₁.heap.get? fa=some o→o.data=.func (docDef d.name d.params d.body d.scope pm cd doc)→s₁.heap.CodeRec cd d.name→mg d.name=some (.ref fa) →
      s₁.heap.get? a=some { cls:=.type "list",data:=.seq vs.toArray } → IntsAre vs ns→ns.length≤n→s₁.gens = #[] →
      codeAny (model l.prog w) callerA (.call (.ref fa) ⟨[.ref a],[]⟩) (fun r s'=>r=.ok (.ret (.bool true))∧OldK s₁.heap s'.heap∧s'.os=s₁.os∧AllBare s'.gens) s₁) :
    WalkO q loose XP YP l.row.toRowW d [] (fun f vs=>PySem.call f vs):=by
  intro w s₀ s₁ mg mb G Y fa o pm cd doc dV kV ho hd hcd hD hmg hg args vals as hpre hlay hrd hwl hlo
  obtain rfl:dV=.none:=Dflts.none hD hdf
  obtain rfl:kV=.none:=Dflts.noKw hD
  obtain⟨a,vs,ns,rfl,rfl,hobj,hints,hlen⟩:=BS hn hpre hwl
  refine enter_call (codeAny_mono (call w s₀ s₁ mg mb fa o pm cd doc a vs ns G Y ho (fd_plain hd) hcd hmg hobj hints hlen hg) fun r s' hq => ?_)
  obtain⟨rfl,h2,h3,h4⟩:=hq
  exact⟨.inl ⟨.bool true,.bool true,[],rfl,fun _=>rfl,.bool true,BT l _,fun _=>⟨List.Pairwise.nil,fun _ hm=>(nomatch hm)⟩⟩,h2,h3,h4⟩
section
variable {prog:Program} {w:World} {A:Around} {E:Value→Shared→Prop} {s:Shared} {K:Frag}
def noObjs (h:Heap):Heap:={ h with objs := #[] }
theorem noObjs_get (h:Heap)(b:Addr):(noObjs h).get? b=none:=by
  cases e:(noObjs h).get? b with
  | none=>rfl
  | some o=>exact absurd (Heap.lt_size e) (Nat.not_lt_zero _)
def ledger (h:Heap) (L d:Addr):List (Addr × Obj):=(List.range h.objs.size).filterMap fun a=>if a=L∨a=d then none else (h.get? a).map fun o=>(a,o)
theorem mem_ledger {h:Heap}{L d a:Addr}{o:Obj}:(a,o)∈ledger h L d ↔ a≠L∧a≠d∧h.get? a=some o:=by
  unfold ledger
  rw [List.mem_filterMap]
  constructor
  · rintro⟨b,_,e⟩
    split at e
    · cases e
    · rename_i hb
      obtain⟨o',ho,e'⟩:=Option.map_eq_some_iff.mp e
      cases e'
      exact⟨fun q=>hb (.inl q),fun q=>hb (.inr q),ho⟩
  · rintro⟨n1,n2,ho⟩
    refine⟨a,List.mem_range.mpr (Heap.lt_size ho),?_⟩
    rw [if_neg (show ¬ (a=L∨a=d) from fun q=>q.elim n1 n2),ho]<;>rfl
theorem fr_all {h:Heap}{L:Addr}{m:Str→Option Value}(n:h.Ns L m):Fr (noObjs h) L h m :=
  ⟨n,fun b o e=>(by rw [noObjs_get] at e;cases e),Nat.zero_le _⟩
end
end Att
namespace L2
open PySem PySem.Spec PyProof.Rows
theorem sk:∀ {vs:List Value} {ns:List Int},IntsAre vs ns→aS (ns.map V.int) vs
  | _,_,.nil=>.nil
  | _,_,.cons n t h=>.cons ⟨t,rfl⟩ (sk h)
def IN (H:Hp):Prop:=∀ b,H b=none ∨ ∃ o xs,H b=some (.frz o (.lst xs))
theorem DH {P:Program}{w:World}{K:PySem.W.Frag}{mg mb:Str→Option Value}{CX:CXT}{k:Nat}{fa a:Addr}{fd:FuncData}{x:Str}{sp:Sp}{s₁ : Shared}{vs:List Value}{ns:List Int}
    (KX:K.In s₁.heap) (hns:s₁.heap.Ns mainGlobals mg) (hb:s₁.heap.Ns builtinsNs mb) (hbb:∀ x:Str,x ≠ "__name__" → mb x=bootBuiltins x) (hlim:s₁.heap.NoLimit) (hg:s₁.gens = #[])
    (ha:s₁.heap.get? a=some { cls:=.type "list",data:=.seq vs.toArray }) (hi:IntsAre vs ns) (hl:ns.length≤sizeLine) (hr:ie k callerA)
    (F:∀ base:Heap,K.In base→base.Ns mainGlobals mg→cE P w K mg base CX k fa fd [x] sp) (hbind:∀ (s:Shared) (u:Value),BindsTo s fd ⟨[u],[]⟩ [(x,u)])
    (hsp:∀ H:Hp,IN H→SqL K H a (ns.map V.int)→sp [.ref a] H (fun v _=>v=.bl true) fun _ _ _=>False)
    (hCX:∀ H e s',CX [] H s₁ (fun _ _ _=>False) e s'→False) :
    codeAny (model P w) callerA (.call (.ref fa) ⟨[.ref a],[]⟩) (fun r s'=>r=.ok (.ret (.bool true))∧OldK s₁.heap s'.heap∧s'.os=s₁.os∧AllBare s'.gens) s₁ := by
  have rv:=sk hi
  have lenV:=hi.length
  have core:∀ H:Hp,IN H→SqL K H a (ns.map V.int)→HOk P w H s₁.heap→(∀ b,H b≠none→b=a)→(H a≠none→K.lookup a=none) →
      codeAny (model P w) callerA (.call (.ref fa) ⟨[.ref a],[]⟩) (fun r s'=>r=.ok (.ret (.bool true))∧OldK s₁.heap s'.heap∧s'.os=s₁.os∧AllBare s'.gens) s₁ := by
    intro H hO hS hok hA hK
    have base_of:∀ {b:Addr} {o:Obj},s₁.heap.get? b=some o→H b=none→(tG s₁.heap H).get? b=some o:=fun e n=>Do e n
    have noA:∀ {b:Addr} {o:Obj} {es:Array DictEntry} {ep:Nat},s₁.heap.get? b=some o→o.data=.dict es ep→H b=none:=fun {b o es ep} e d=>by
      cases q:H b with
      | none=>rfl
      | some u =>
        have e':b=a:=hA b (by rw [q];simp)
        subst e'
        rw [ha] at e;cases e
        have d':Data.seq vs.toArray _=Data.dict es ep:=d
        cases d'
    have nsK:∀ {b:Addr} {m:Str→Option Value},s₁.heap.Ns b m→(tG s₁.heap H).Ns b m:=fun {b m} ⟨o,es,ep,e,d,r⟩=>⟨o,es,ep,base_of e (noA e d),d,r⟩
    have hKb:K.In (tG s₁.heap H):=fun b o e=>base_of (KX b o e) (by
      cases q:H b with
      | none=>rfl
      | some u =>
        have e':b=a:=hA b (by rw [q];simp)
        subst e'
        rw [hK (by rw [q];simp)] at e;cases e)
    have hM:Mod K mg (tG s₁.heap H):=⟨hKb,nsK hns,⟨mb,nsK hb,hbb⟩,let ⟨mc,h1,h2⟩:=hlim;⟨mc,nsK h1,h2⟩⟩
    have e0:FZ P w K mg (tG s₁.heap H) callerA [] s₁ H:=⟨rfl,hM,fun b o e=>FM e,Nat.le_of_eq (BL _ _),trivial,fun b hb=>absurd (show b∈([] : List Addr) from hb) (by simp),hok,.of_eq hg⟩
    refine codeAny_mono ((F _ hKb (nsK hns)).run callerA [] s₁ H ⟨[.ref a],[]⟩ [.ref a] [.ref a] _ _ hr e0 (hbind s₁ (.ref a)) (.cons rfl .nil) (hsp H hO hS)) fun r s' h => ?_
    cases r with
    | error e=>exact (hCX H e s' h).elim
    | ok fl =>
      cases fl with
      | next=>exact False.elim h
      | brk=>exact False.elim h
      | cont=>exact False.elim h
      | ret u =>
        obtain⟨v,H',os,bare,un,hok',r',q⟩:=h
        have q':v=.bl true:=q
        subst q'
        obtain rfl:u=Value.bool true:=r'
        refine⟨rfl,OldK.of_keep fun b o e => ?_,os,bare⟩
        cases q:H b with
        | none=>exact un.keep b o e q (by intro z;exact absurd (show b∈([] : List Addr) from z) (by simp)) (by simp)
        | some u =>
          rcases hO b with z|⟨ob,xs,z⟩
          · rw [q] at z;cases z
          · have z2:=un.frzs b ob _ z
            obtain⟨e1,_⟩:=hok b _ z
            obtain⟨e2,_⟩:=hok' b _ z2
            rw [e] at e1;cases e1
            exact e2
  cases hk:K.lookup a with
  | some o =>
    have e:=KX a o hk
    rw [ha] at e
    cases e
    refine core (fun _=>none) (fun _=>.inl rfl) (.inr ⟨_,vs.toArray,_,hk,rfl,rfl,rfl,by rw [List.size_toArray,lenV];exact hl,by simpa using rv⟩) (fun b u z=>by have z':(none:Option HO)=some u:=z;cases z') (fun b z=>absurd rfl z) fun z=>absurd rfl z
  | none =>
    refine core (fun b=>if b=a then some (.frz { cls:=.type "list",data:=.seq vs.toArray } (.lst (ns.map V.int))) else none) (fun b => ?_) (.inl (.inr ⟨{ cls:=.type "list",data:=.seq vs.toArray },if_pos rfl⟩)) (fun b u z => ?_) (fun b z => ?_) fun _=>hk
    · by_cases hb:b=a
      · exact .inr ⟨_,_,if_pos hb⟩
      · exact .inl (if_neg hb)
    · by_cases hb:b=a
      · have z':=(if_pos hb).symm.trans z
        cases z'
        subst hb
        exact⟨ha,by rw [List.length_map];exact hl,vs,_,rv,ha⟩
      · have z':=(if_neg hb).symm.trans z
        cases z'
    · by_cases hb:b=a
      · exact hb
      · exact absurd (if_neg hb) z
end L2
namespace L2
open PySem PySem.Spec PyProof.Rows
theorem Gf {l:PySem.W.OpenLaw}{n k:Nat}{q:Program}{loose:List Str}{XP:(Str→Option Value)→Heap→Prop}{YP:World→Heap→Prop}{d:DefRec}{K:Params→PySem.W.Frag}{CX:World→CXT}{sp:World→Sp}{x:Str}
    (hn:l.most=some n) (hn2:n≤sizeLine) (hdf:d.params.defaults=[]) (hr:ie k callerA)
    (hY:∀ (w:World) (h:Heap),YP w h→(K w.params).In h)
    (F:∀ (w:World) (mg:Str→Option Value) (fa:Addr) (h:Heap),(K w.params).In h→h.Ns mainGlobals mg→mg d.name=some (.ref fa) →
      ∃ fd:FuncData,(∀ (s:Shared) (u:Value),BindsTo s fd ⟨[u],[]⟩ [(x,u)]) ∧
        ∀ base:Heap,(K w.params).In base→base.Ns mainGlobals mg→cE l.prog w (K w.params) mg base (CX w) k fa fd [x] (sp w))
    (hsp:∀ (w:World) (H:Hp) (a:Addr) (ns:List Int),ns.length≤n→IN H→SqL (K w.params) H a (ns.map V.int)→sp w [.ref a] H (fun v _=>v=.bl true) fun _ _ _=>False)
    (hCX:∀ (w:World) (H:Hp) (s:Shared) (e:Value) (s':Shared),CX w [] H s (fun _ _ _=>False) e s'→False) :
    PySem.W.WalkO q loose XP YP l.row.toRowW d [] (fun f vs=>PySem.call f vs):=by
  refine Att.attach_call hn hdf fun w s₀ s₁ mg mb fa o pm cd doc a vs ns G Y ho hd hcd hmg hobj hints hlen hg => ?_
  have KX:=hY w _ Y
  obtain⟨fd,hb,hF⟩:=F w mg fa _ KX G.T.g hmg
  exact DH KX G.T.g G.T.b G.T.builtins G.T.nolimit hg hobj hints (Nat.le_trans hlen hn2) hr hF hb (fun H hO hS=>hsp w H a ns hlen hO hS) fun H e s'=>hCX w H s₁ e s'
end L2
namespace L2
open PySem PySem.Spec PyProof.Rows
def aX (s:Stmt):Arguments:=match s with
  | .FunctionDef _ a _ _ _ _ _ _ _ _=>a
  | _=>{ posonlyargs:=[],args:=[],vararg:=none,kwonlyargs:=[],kw_defaults:=[],kwarg:=none,defaults:=[] }
def aL (s:Stmt):List Stmt:=match s with
  | .FunctionDef _ _ b _ _ _ _ _ _ _=>b
  | _=>[]
def aj (s:Stmt):Scope:=match s with
  | .FunctionDef _ _ _ _ _ _ sc _ _ _=>sc
  | _=>{ kind:=.function,names:=[],isGenerator:=false,isCoroutine:=false }
abbrev CX0:CXT:=fun _ _ _ _ _ _=>False
abbrev E0:XK:=fun _ _ _=>False
theorem Kf {X:Cx}:yx CX0 X E0:=fun _ _ _ _ _ _ _ h=>h.elim
structure Fun (K:PySem.W.Frag) (x qual:Str) (st:Stmt) (f:Addr) (fd:FuncData):Prop where
  ex:∃ (oc:Value) (od:Option Addr) (kV doc pm:Value) (an:Option Addr) (cdv ct:Value) (osl:Array (Option Value)),
    fd=PySem.W.fnOf x qual (aX st) (aL st) (aj st) .none kV doc pm an cdv ct∧K.lookup f=some ⟨oc,od,.func fd,osl⟩ ∧ PySem.W.codeIn K cdv qual=true
  kp:PySem.W.keepIn K (.ref f)=true
section
variable {P:Program} {w:World} {K:PySem.W.Frag} {mg:Str→Option Value} {base:Heap}
theorem Fun.ok {x qual:Str}{st:Stmt}{f:Addr}{fd:FuncData}{N ps:List Str}{k:Nat}{sp:Sp}(F:Fun K x qual st f fd)(S:aY N ps (aj st))(len:∀ vs H Q E,sp vs H Q E→vs.length=ps.length)
    (hbody:∀ (cdv:Value) (A:Around) (outer:List Env) (s:Shared) (H:Hp) (vs:List V) (Q:VK) (E:XK),ie k (A.deeper (envOfC qual (aj st) s.heap.objs.size f cdv))→sp vs H Q E →
      ∃ t,PSs (yy CX0 P w K mg base N qual (aj st) f cdv A outer s H E).nox (aL st) t∧t { nx:=fun _ H'=>Q .non H',rt:=Q } (iY N vs) H):cE P w K mg base CX0 (k + 1) f fd ps sp:=by
  obtain⟨oc,od,kV,doc,pm,an,cdv,ct,osl,rfl,lk,hcd⟩:=F.ex
  refine J8 lk hcd S len fun A outer s H vs Q E hr hsp => ?_
  obtain⟨t,h,q⟩:=hbody cdv A outer s H vs Q E hr hsp
  exact⟨t,h.nox,q⟩
theorem Fun.binds {x qual:Str}{st:Stmt}{f:Addr}{fd:FuncData}{ps:List Str}(F:Fun K x qual st f fd)
    (h:∀ (kV doc pm:Value) (an:Option Addr) (cdv ct:Value) (us:List Value),us.length=ps.length→bindArgs (PySem.W.fnOf x qual (aX st) (aL st) (aj st) .none kV doc pm an cdv ct) ⟨us,[]⟩ = pure (ps.zip us)):oF K fd ps []:=by
  obtain⟨oc,od,kV,doc,pm,an,cdv,ct,osl,rfl,lk,hcd⟩:=F.ex
  exact .all (h kV doc pm an cdv ct)
theorem bu {x qual:Str}{st:Stmt}{f:Addr}{oc:Value}{od an:Option Addr}{osl:Array (Option Value)}{kV doc pm cdv ct:Value}(l:K.lookup f=some ⟨oc,od,.func (PySem.W.fnOf x qual (aX st) (aL st) (aj st) .none kV doc pm an cdv ct),osl⟩)
    (c:PySem.W.codeIn K cdv qual=true) (k:PySem.W.keepIn K (.ref f)=true):Fun K x qual st f (PySem.W.fnOf x qual (aX st) (aL st) (aj st) .none kV doc pm an cdv ct):=⟨⟨oc,od,kV,doc,pm,an,cdv,ct,osl,rfl,l,c⟩,k⟩
end
section
variable {X:Cx}
end
def lH (H H':Hp):Prop:=∀ b o,H b=some o→H' b=some o
theorem lH.refl (H:Hp):lH H H:=fun _ _ h=>h
end L2
set_option linter.all false
namespace L2
open PySem PySem.Spec
structure K9 (h:Heap) (a D:Addr) (o:Obj):Prop where
  at_:h.get? a=some o
  cls:o.cls=.ref D
def Kg (a C:Addr):HO:=.ext fun h=>∃ o,K9 h a C o
end L2
namespace Fm
inductive D where
  | non|bl (b:Bool)|int (i:Int)|str (x:List Nat)|tup (l:List D)|ref (n:Nat)|lit (l:List D)|exn (c:String) (l:List D)
deriving Inhabited
inductive ec where
  | lst (l:List D)|dct (l:List (Int × D))
abbrev Hd:=List ec
inductive Res (α : Type) where
  | ok (a : α) (h:Hd)|exc (x:D) (h:Hd)|bad
def Res.bind {α β : Type} (r:Res α) (f : α → Hd→Res β):Res β := match r with
  | .ok a h=>f a h | .exc x h=>.exc x h | .bad=>.bad
@[simp] theorem aI {α β : Type} (a : α) (h:Hd) (f : α → Hd→Res β):(Res.ok a h).bind f=f a h:=rfl
abbrev Sd:=List (Option D)
abbrev EF:=Sd→Hd→Res D
abbrev TF:=Sd→Hd→Res Bool
abbrev LF:=Sd→Hd→Res (List D)
inductive Out where
  | nx (σ:Sd) (h:Hd)|rt (d:D) (h:Hd)|bk (σ:Sd) (h:Hd)|ct (σ:Sd) (h:Hd)|exc (x:D) (σ:Sd) (h:Hd)|bad
abbrev SF:=Sd→Hd→Out
abbrev Fn:=List D→Hd→Res D
abbrev SZ:Nat:=1000000
@[simp] def slot (σ:Sd) (i:Nat):Option D:=match σ[i]? with|some (some d)=>some d|_=>none
@[simp] def aa (i:Nat):EF:=fun σ h=>match slot σ i with|some d=>.ok d h|none=>.bad
@[simp] def fC (d:D):EF:=fun _ h=>.ok d h
abbrev O2:=D→D→Hd→Res D
@[simp] def ak (g:O2) (a b:EF):EF:=fun σ h=>(a σ h).bind fun x h=>(b σ h).bind fun y h=>g x y h
@[simp] def oI (g:Int→Int→Int):O2:=fun x y h=>match x,y with | .int i,.int j=>.ok (.int (g i j)) h|_,_=>.bad
@[simp] def oB (g:Int→Int→Bool):O2:=fun x y h=>match x,y with | .int i,.int j=>.ok (.bl (g i j)) h|_,_=>.bad
@[simp] def oIc (c:Int→Int→Bool) (g:Int→Int→Int):O2:=fun x y h=>match x,y with | .int i,.int j=>if c i j then .ok (.int (g i j)) h else .bad|_,_=>.bad
def sml (i:Int):Bool:=decide (-18446744073709551616 < i) && decide (i < 18446744073709551616)
@[simp] def bT:O2:=fun x y h=>match x,y with
  | .int i,.int j=>.ok (.int (i + j)) h
  | .tup (x :: xs),.tup ys=>if (x :: xs).length + ys.length≤SZ then .ok (.tup (x :: xs++ys)) h else .bad
  | _,_=>.bad
@[simp] def ig:O2:=fun x y h=>(oI (· - ·)) x y h
@[simp] def fj:O2:=fun x y h=>(oIc (fun i j=>sml i || sml j) (· * ·)) x y h
@[simp] def kg:O2:=fun x y h=>(oIc (fun _ j=>decide (0 < j)) (· % ·)) x y h
@[simp] def IO:O2:=fun x y h=>(oIc (fun _ j=>decide (0 < j) && decide (j < 2 ^ 250)) (· / ·)) x y h
@[simp] def IP:O2:=fun x y h=>(oIc (fun i j=>decide (0≤j) && decide (j≤1000000) && sml i) (fun i j=>i ^ j.toNat)) x y h
@[simp] def oLt:O2:=fun x y h=>(oB fun i j=>decide (i < j)) x y h
@[simp] def oLe:O2:=fun x y h=>(oB fun i j=>decide (i≤j)) x y h
@[simp] def oGt:O2:=fun x y h=>(oB fun i j=>decide (j < i)) x y h
@[simp] def Lj:D→Hd→Res D:=fun x h=>match x with | .int i=>.ok (.int (-i)) h|_=>.bad
@[simp] def oH:D→Bool | .non=>true|_=>false
@[simp] def Gg:O2:=fun x y h=>if oH y then .ok (.bl (oH x)) h else .bad
@[simp] def kH:O2:=fun x y h=>if oH y then .ok (.bl (!oH x)) h else .bad
@[simp] def b2i (b:Bool):Int:=if b then 1 else 0
mutual
def peq:D→D→Option Bool
  | .int i,k=>match k with | .int j=>some (decide (i=j)) | .bl c=>some (decide (i=b2i c)) | .non=>some false | .tup _=>some false|_=>none
  | .bl c,k=>match k with | .int j=>some (decide (b2i c=j)) | .bl d=>some (decide (c=d))|_=>none
  | .str x,k=>match k with | .str y=>some (decide (x=y))|_=>none
  | .non,k=>match k with | .non=>some true | .int _=>some false | .tup _=>some false|_=>none
  | .tup xs,k=>match k with | .tup ys=>(ii xs ys).map fun b=>b && decide (xs.length=ys.length) | .non=>some false | .int _=>some false|_=>none
  | .ref _,_=>none
  | .lit _,_=>none
  | .exn _ _,_=>none
def ii:List D→List D→Option Bool
  | x :: xs,y :: ys=>match peq x y,ii xs ys with
    | some a,some b=>some (a && b)
    | _,_=>none
  | _,_=>some true
end
mutual
def dep:D→Nat
  | .tup l=>qz l + 1
  | _=>0
def qz:List D→Nat
  | []=>0
  | x :: xs=>max (dep x) (qz xs)
end
def eqL (xs ys:List D):Option Bool:=if qz xs≤20 then (if xs.length=ys.length then ii xs ys else some false) else none
@[simp] def cI (h:Hd):D→Option (List D)
  | .ref n=>match h[n]? with|some (.lst l)=>some l|_=>none
  | .lit l=>some l
  | _=>none
@[simp] def eqG (h:Hd) (x y:D):Option Bool:=match cI h x,cI h y with
  | some xs,some ys=>eqL xs ys
  | none,none=>if dep x≤20 then peq x y else none
  | _,_=>none
@[simp] def oEq:O2:=fun x y h=>match eqG h x y with|some b=>.ok (.bl b) h|none=>.bad
@[simp] def oNe:O2:=fun x y h=>match eqG h x y with|some b=>.ok (.bl (!b)) h|none=>.bad
@[simp] def bY:D→Bool
  | .non=>true | .bl _=>true | .int _=>true | .str _=>true|_=>false
@[simp] def eqF:D→D→Bool
  | .non,k=>match k with | .non=>true|_=>false
  | .bl a,k=>match k with | .bl b=>a == b | .int b=>b2i a == b|_=>false
  | .int a,k=>match k with | .bl b=>a == b2i b | .int b=>a == b|_=>false
  | .str a,k=>match k with | .str b=>a == b|_=>false
  | .tup _,_=>false
  | .ref _,_=>false
  | .lit _,_=>false
  | .exn _ _,_=>false
@[simp] def asB (r:Res D):Res Bool:=r.bind fun x h=>match x with | .bl b=>.ok b h|_=>.bad
@[simp] def tE (a:EF):TF:=fun σ h=>asB (a σ h)
@[simp] def ib (t:TF):TF:=fun σ h=>(t σ h).bind fun b h=>.ok (!b) h
@[simp] def iX (t u:TF):TF:=fun σ h=>(t σ h).bind fun b h=>if b then u σ h else .ok false h
@[simp] def tOr (t u:TF):TF:=fun σ h=>(t σ h).bind fun b h=>if b then .ok true h else u σ h
@[simp] def fT (t:TF):EF:=fun σ h=>(t σ h).bind fun b h=>.ok (.bl b) h
@[simp] def fIf (t:TF) (a b:EF):EF:=fun σ h=>(t σ h).bind fun c h=>if c then a σ h else b σ h
@[simp] def oJ (g k:O2) (a b c:EF):EF:=fun σ h=>(a σ h).bind fun x h=>(b σ h).bind fun y h=>(g x y h).bind fun z h=>match z with
  | .bl true=>(c σ h).bind fun w h=>k y w h
  | .bl false=>.ok (.bl false) h
  | _=>.bad
@[simp] def aq:LF:=fun _ h=>.ok [] h
@[simp] def af (a:EF) (r:LF):LF:=fun σ h=>(a σ h).bind fun x h=>(r σ h).bind fun xs h=>.ok (x :: xs) h
@[simp] def gw (r:LF):EF:=fun σ h=>(r σ h).bind fun xs h=>if xs.length≤SZ then .ok (.tup xs) h else .bad
@[simp] def cj (r:LF):EF:=fun σ h=>(r σ h).bind fun xs h=>if xs.length≤SZ then .ok (.ref h.length) (h++[.lst xs]) else .bad
@[simp] def fW (h:Hd):D→Option (List D)
  | .tup l=>some l
  | .lit l=>some l
  | .ref n=>match h[n]? with|some (.lst l)=>some l|_=>none
  | _=>none
@[simp] def lOf (a:EF):LF:=fun σ h=>(a σ h).bind fun x h=>match fW h x with|some l=>.ok l h|none=>.bad
@[simp] def inL (h:Hd) (x y:D):Option Bool:=match fW h y with
  | some l=>if bY x && l.all bY then some (l.any fun z=>eqF z x) else none
  | none=>none
@[simp] def oIn:O2:=fun x y h=>match inL h x y with|some b=>.ok (.bl b) h|none=>.bad
@[simp] def lI:O2:=fun x y h=>match inL h x y with|some b=>.ok (.bl (!b)) h|none=>.bad
@[simp] def eC (x e:EF):EF:=fun σ h=>(x σ h).bind fun p h=>match cI h p with
  | some _=>(e σ h).bind fun d h=>match cI h p with
    | some l=>if bY d && l.all bY then .ok (.int (l.countP fun z=>eqF z d)) h else .bad
    | none=>.bad
  | none=>.bad
def ixN (n:Nat) (i:Int):Option Nat:=if 0≤i then (if i < n then some i.toNat else none) else if -(n:Int)≤i then some (i + n).toNat else none
def atI (xs:List D) (i:Int):Option D:=(ixN xs.length i).bind fun j=>xs[j]?
@[simp] def fIx (a:LF) (b:EF):EF:=fun σ h=>(a σ h).bind fun l h=>(b σ h).bind fun y h=>match y with
  | .int i=>match atI l i with|some d=>.ok d h|none=>.bad
  | _=>.bad
@[simp] def oAt:O2:=fun x y h=>match fW h x,y with
  | some l,.int i=>match atI l i with|some d=>.ok d h|none=>.bad
  | _,_=>.bad
@[simp] def fAt (a b:EF):EF:=fun σ h=>ak oAt a b σ h
@[simp] def cX (a:LF):EF:=fun σ h=>(a σ h).bind fun l h=>.ok (.int l.length) h
def eA:List D→Option (List Int)
  | []=>some []
  | .int i :: r=>(eA r).map (i :: ·)
  | _=>none
@[simp] def kI (a:LF):EF:=fun σ h=>(a σ h).bind fun l h=>match eA l with|some is=>.ok (.int is.sum) h|none=>.bad
def iZ:List D→Option (List Bool)
  | []=>some []
  | .bl b :: r=>(iZ r).map (b :: ·)
  | _=>none
@[simp] def BU (a:LF):EF:=fun σ h=>(a σ h).bind fun l h=>match iZ l with|some bs=>.ok (.bl (bs.all id)) h|none=>.bad
@[simp] def cY (a:LF):EF:=fun σ h=>(a σ h).bind fun l h=>.ok (.tup l) h
@[simp] def wp (a:EF):EF:=fun σ h=>(a σ h).bind fun x h=>match x with | .int i=>.ok (.int i) h | .bl b=>.ok (.int (b2i b)) h|_=>.bad
inductive Ty where|int|bool|tuple|list|str
deriving DecidableEq
@[simp] def BV (h:Hd) (t:Ty):D→Option Bool
  | .non=>some false
  | .bl _=>some (t == .bool || t == .int)
  | .int _=>some (t == .int)
  | .str _=>some (t == .str)
  | .tup _=>some (t == .tuple)
  | .lit _=>some (t == .list)
  | .ref n=>match h[n]? with|some (.lst _)=>some (t == .list)|some (.dct _)=>some false|none=>none
  | .exn _ _=>none
@[simp] def kJ (t:Ty) (a:EF):EF:=fun σ h=>(a σ h).bind fun x h=>match BV h t x with|some b=>.ok (.bl b) h|none=>.bad
def sIx (n d:Nat):Option Int→Nat
  | none=>d
  | some i=>if i < 0 then (i + n).toNat else min i.toNat n
def cut (l:List D) (lo hi:Option Int):List D:=(l.drop (sIx l.length 0 lo)).take (sIx l.length l.length hi - sIx l.length 0 lo)
abbrev OF:=Sd→Hd→Res (Option Int)
@[simp] def pNo:OF:=fun _ h=>.ok none h
@[simp] def pAt (a:EF):OF:=fun σ h=>(a σ h).bind fun x h=>match x with | .int i=>.ok (some i) h|_=>.bad
@[simp] def gx (a:EF) (lo hi:OF):EF:=fun σ h=>(a σ h).bind fun x h=>(lo σ h).bind fun i h=>(hi σ h).bind fun j h=>match x with
  | .tup l=>if sIx l.length 0 i=0∧sIx l.length l.length j=l.length then .bad else .ok (.tup (cut l i j)) h
  | x=>match cI h x with|some l=>.ok (.ref h.length) (h++[.lst (cut l i j)])|none=>.bad
def bP:List Int→List Int→Bool
  | [],[]=>false
  | [],_ :: _=>true
  | _ :: _,[]=>false
  | x :: xs,y :: ys=>if x=y then bP xs ys else decide (x < y)
def nT:List D→Option (List (List Int))
  | []=>some []
  | .tup l :: r=>match eA l,nT r with|some a,some b=>some (a :: b)|_,_=>none
  | _=>none
def tN:List (List Int)→Bool
  | a :: b :: r => !bP b a && tN (b :: r)
  | _=>true
@[simp] def n9 (l:List D):Option (List D):=match nT l with
  | some r=>if l.length < 64∧tN r=true∧r.all (fun x => !x.isEmpty)=true then some l else none
  | none=>none
@[simp] def lJ (a:EF):LF:=fun σ h=>(a σ h).bind fun x h=>match cI h x with
  | some l=>match n9 l with|some l=>.ok l h|none=>.bad
  | none=>.bad
@[simp] def ar (F:Fn) (r:LF):EF:=fun σ h=>(r σ h).bind fun xs h=>F xs h
abbrev IF:=Sd→Hd→Res (List D × Option Nat)
@[simp] def bm (a:EF):IF:=fun σ h=>(a σ h).bind fun x h=>match x with
  | .int n=>if -1000000≤n∧n≤1000000 then .ok ((List.range n.toNat).map (fun k:Nat=>.int k),none) h else .bad
  | _=>.bad
@[simp] def eW (a:EF):IF:=fun σ h=>(a σ h).bind fun x h=>match x with
  | .tup l=>.ok (l,none) h
  | .lit l=>.ok (l,none) h
  | .ref n=>match h[n]? with|some (.lst l)=>.ok (l,some n) h|_=>.bad
  | _=>.bad
@[simp] def DI (a:EF):IF:=fun σ h=>(a σ h).bind fun x h=>match x with
  | .tup l=>.ok ((List.range l.length).zip l |>.map fun p=>.tup [.int (p.1:Nat),p.2],none) h
  | _=>.bad
noncomputable section
open Classical
def dl (g:Option Nat) (all:List D) (h:Hd):Prop:=match g with|none=>True|some n=>h[n]? = some (.lst all)
abbrev GF:=D→Sd→Option Sd
@[simp] def gN (i:Nat):GF:=fun d σ=>some (σ.set i (some d))
@[simp] def gT (l:List Nat):GF:=fun d σ=>match d with
  | .tup xs=>if xs.length=l.length then some ((l.zip xs).foldl (fun σ p => σ.set p.1 (some p.2)) σ) else none
  | _=>none
@[simp] def aE (a b:SF):SF:=fun σ h=>match a σ h with | .nx σ h=>b σ h|r=>r
@[simp] def b9:SF:=fun σ h=>.nx σ h
@[simp] def outE (r:Res D) (σ:Sd) (k:D→Hd→Out):Out:=match r with | .ok d h=>k d h | .exc x h=>.exc x σ h | .bad=>.bad
@[simp] def aT (g:GF) (a:EF):SF:=fun σ h=>outE (a σ h) σ fun d h=>match g d σ with|some σ=>.nx σ h|none=>.bad
@[simp] def bc (a:EF):SF:=fun σ h=>outE (a σ h) σ fun d h=>.rt d h
@[simp] def gQ (a:EF):SF:=fun σ h=>outE (a σ h) σ fun _ h=>.nx σ h
@[simp] def sIf (t:TF) (a b:SF):SF:=fun σ h=>match t σ h with | .ok c h=>if c then a σ h else b σ h | .exc x h=>.exc x σ h | .bad=>.bad
def Gh:SF:=fun _ _=>.bad
@[simp] def Kh (x i e:EF):SF:=fun σ h=>outE (e σ h) σ fun d h=>outE (x σ h) σ fun p h=>outE (i σ h) σ fun j h=>match p,j with
  | .ref n,.int j=>match h[n]? with
    | some (.lst l)=>match ixN l.length j with
      | some k=>.nx σ (h.set n (.lst (l.set k d)))
      | none=>.bad
    | _=>.bad
  | _,_=>.bad
@[simp] def IQ:O2:=fun p d h=>match p with
  | .ref n=>match h[n]? with
    | some (.lst l)=>if l.length < SZ then .ok .non (h.set n (.lst (l++[d]))) else .bad
    | _=>.bad
  | _=>.bad
@[simp] def ik (x e:EF):EF:=fun σ h=>(x σ h).bind fun p h=>match p with
  | .ref n=>match h[n]? with
    | some (.lst _)=>(e σ h).bind fun d h=>IQ (.ref n) d h
    | _=>.bad
  | _=>.bad
def gl (g:Option Nat) (all:List D) (tg:GF) (b:SF):List D→SF
  | [],σ,h=>if dl g all h then .nx σ h else .bad
  | x :: xs,σ,h=>if dl g all h then match tg x σ with
      | some σ=>match b σ h with
        | .nx σ h=>gl g all tg b xs σ h
        | .ct σ h=>gl g all tg b xs σ h
        | .bk σ h=>.nx σ h
        | r=>r
      | none=>.bad
    else .bad
@[simp] def iU (it:IF) (tg:GF) (b:SF):SF:=fun σ h=>match it σ h with
  | .ok (l,g) h=>gl g l tg b l σ h
  | .exc x h=>.exc x σ h
  | .bad=>.bad
def dA (t:TF) (b:SF):Nat→SF
  | 0,_,_=>.bad
  | n + 1,σ,h=>match t σ h with
    | .ok true h=>match b σ h with
      | .nx σ h=>dA t b n σ h
      | .ct σ h=>dA t b n σ h
      | .bk σ h=>.nx σ h
      | r=>r
    | .ok false h=>.nx σ h
    | .exc x h=>.exc x σ h
    | .bad=>.bad
def jS (t:TF) (b:SF):Sd→Hd→Nat:=fun σ h=>if ex:∃ n,dA t b n σ h ≠ .bad then Classical.choose ex else 0
def oK (t:TF) (b:SF):SF:=fun σ h=>dA t b (jS t b σ h) σ h
@[simp] def gR:List TF→TF
  | [],_,h=>.ok true h
  | t :: r,σ,h=>(t σ h).bind fun b h=>if b then gR r σ h else .ok false h
def bQ (g:Option Nat) (all:List D) (tg:GF) (cs:List TF) (e:EF):List D→Sd→Hd→Res (List D)
  | [],_,h=>if dl g all h then .ok [] h else .bad
  | x :: xs,σ,h=>if dl g all h then match tg x σ with
      | some σ=>(gR cs σ h).bind fun b h=>if b then (e σ h).bind fun d h=>(bQ g all tg cs e xs σ h).bind fun ds h=>.ok (d :: ds) h
        else bQ g all tg cs e xs σ h
      | none=>.bad
    else .bad
@[simp] def fX (nl:Nat) (caps:List Nat) (σ:Sd):Sd:=List.replicate nl none++caps.map fun i=>slot σ i
@[simp] def bF (nl:Nat) (caps:List Nat) (it:IF) (tg:GF) (cs:List TF) (e:EF):LF:=fun σ h=>(it σ h).bind fun p h =>
  bQ p.2 p.1 tg cs e p.1 (fX nl caps σ) h
mutual
def pure? : D→Bool
  | .ref _=>false
  | .tup l=>i3 l
  | .lit l=>i3 l
  | .exn _ l=>i3 l
  | _=>true
def i3:List D→Bool
  | []=>true
  | x :: xs=>pure? x && i3 xs
end
def wq:ec→Bool
  | .lst l=>i3 l
  | .dct l=>l.all fun p=>pure? p.2
def DJ (h h':Hd):Prop:=∀ n c,n < h.length→h'[n]? = some c→h[n]? = some c∨wq c=true
def letGo (h:Hd) (r:Res D):Res D:=match r with
  | .ok d h'=>if pure? d=true∧DJ h h' then .ok d (h'.take h.length) else .ok d h'
  | r=>r
def runB (n:Nat) (b:SF):Fn:=fun ds h=>match b (ds.map some++List.replicate (n - ds.length) none) h with
  | .nx _ h=>.ok .non h
  | .rt d h=>.ok d h
  | .exc x _ h=>.exc x h
  | _=>.bad
def bM (np n:Nat) (b:SF):Fn:=fun ds h=>if ds.length=np then letGo h (runB n b ds h) else .bad
end
end Fm
set_option Elab.async false
set_option linter.all false
set_option maxRecDepth 100000
namespace Fm
open PySem PySem.Spec L2
def toS (x:List Nat):Str:=⟨x.toArray⟩
def m8 (K:PySem.W.Frag) (H:Hp) (a:Addr) (xs:List V):Prop :=
  (∃ o,H a=some (.frz o (.lst xs))) ∨
    ∃ (o:Obj) (its:Array Value) (n:Nat),K.lookup a=some o∧o.cls=.type "list" ∧ o.dict=none∧o.data=.seq its n∧its.size≤sizeLine∧aS xs its.toList
section
variable (K:PySem.W.Frag) (ρ:List Addr) (H:Hp)
mutual
def RD:D→V→Prop
  | .non,v=>v=.non
  | .bl b,v=>v=.bl b
  | .int i,v=>v=.int i
  | .str x,v=>v=.str (toS x)
  | .tup l,v=>∃ p vs,v=.ref p∧H p=some (.tup vs)∧RDs l vs
  | .lit l,v=>∃ p vs,v=.ref p∧m8 K H p vs∧RDs l vs
  | .ref n,v=>∃ a,ρ[n]? = some a∧v=.ref a
  | .exn c l,v=>l=[] ∧ ∃ a C,v=.ref a∧H a=some (Kg a C)∧PySem.W.nsIn K mainGlobals (Str.ofString c)=some (some (.ref C))
def RDs:List D→List V→Prop
  | [],vs=>vs=[]
  | d :: ds,vs=>∃ v r,vs=v :: r∧RD d v∧RDs ds r
end
def RC:ec→Addr→Prop
  | .lst l,a=>∃ vs,H a=some (.lst vs)∧RDs K ρ H l vs
  | .dct l,a=>∃ kvs,H a=some (.dK kvs)∧kvs.map (·.1)=l.map (fun p=>(Sum.inl p.1:Key))∧RDs K ρ H (l.map (·.2)) (kvs.map (·.2))
structure RH (hd:Hd):Prop where
  len : ρ.length=hd.length
  nd : ρ.Nodup
  cel:∀ (n:Nat) c a,hd[n]? = some c → ρ[n]? = some a→RC K ρ H c a
structure RSt (σd:Sd) (σ:St):Prop where
  len : σd.length = σ.length
  at':∀ i d,slot σd i=some d → ∃ v,σ[i]? = some (some v)∧RD K ρ H d v
structure RS (σd:Sd) (hd:Hd) (σ:St):Prop where
  hp:RH K ρ H hd
  st:RSt K ρ H σd σ
end
structure Ext (ρ:List Addr) (H:Hp) (ρ':List Addr) (H':Hp):Prop where
  pre:∃ t,ρ' = ρ ++ t
  new:∀ a ∈ ρ',a ∈ ρ ∨H a=none
  frame:∀ p o,H p=some o→p ∉ ρ → H' p=some o
section
variable {K:PySem.W.Frag} {ρ ρ' ρ'':List Addr} {H H' H'':Hp} {hd hd':Hd} {σd σd':Sd} {σ σ':St}
theorem Ext.refl:Ext ρ H ρ H:=⟨⟨[],by simp⟩,fun _ h=>.inl h,fun _ _ h _=>h⟩
theorem Ext.out (e:Ext ρ H ρ' H'){p:Addr}{o:HO}(h:H p=some o)(n:p ∉ ρ):p ∉ ρ':=fun z=>by
  rcases e.new p z with q|q
  · exact n q
  · rw [h] at q;cases q
theorem Ext.trans (a:Ext ρ H ρ' H')(b:Ext ρ' H' ρ'' H''):Ext ρ H ρ'' H'' where
  pre:=by
    obtain⟨t,rfl⟩:=a.pre
    obtain⟨u,rfl⟩:=b.pre
    exact⟨t++u,by simp⟩
  new:=fun x hx=>by
    rcases b.new x hx with q|q
    · exact a.new x q
    · cases e:H x with
      | none=>exact .inr rfl
      | some o =>
        by_cases hn:x ∈ ρ
        · exact .inl hn
        · rw [a.frame x o e hn] at q;cases q
  frame:=fun p o h n=>b.frame p o (a.frame p o h n) (a.out h n)
theorem Ext.same (s:lH H H'):Ext ρ H ρ H':=⟨⟨[],by simp⟩,fun _ h=>.inl h,fun p o h _=>s p o h⟩
theorem Ext.get (e:Ext ρ H ρ' H'){n:Nat}{a:Addr}(h : ρ[n]? = some a) : ρ'[n]? = some a:=by
  obtain⟨t,rfl⟩:=e.pre
  rw [List.getElem?_append_left (List.getElem?_eq_some_iff.mp h).1]
  exact h
theorem RH.mut (r:RH K ρ H hd){a:Addr}(h:a ∈ ρ):(∃ vs,H a=some (.lst vs)) ∨ ∃ kvs,H a=some (.dK kvs):=by
  obtain⟨n,hn⟩:=List.getElem?_of_mem h
  have hl:=(List.getElem?_eq_some_iff.mp hn).1
  have hc:hd[n]? = some (hd[n]'(by rw [← r.len];exact hl)):=by simp
  have q:=r.cel n _ a hc hn
  cases e:hd[n]'(by rw [← r.len];exact hl) with
  | lst l=>rw [e] at q;obtain⟨vs,h1,_⟩:=q;exact .inl ⟨vs,h1⟩
  | dct l=>rw [e] at q;obtain⟨vs,h1,_⟩:=q;exact .inr ⟨vs,h1⟩
theorem RH.noTup (r:RH K ρ H hd){a:Addr}{vs:List V}(h:H a=some (.tup vs)):a ∉ ρ:=fun z=>by
  rcases r.mut z with ⟨_,q⟩|⟨_,q⟩<;>(rw [h] at q;cases q)
theorem RH.noFrz (r:RH K ρ H hd){a:Addr}{o:Obj}{u:HO}(h:H a=some (.frz o u)):a ∉ ρ:=fun z=>by
  rcases r.mut z with ⟨_,q⟩|⟨_,q⟩<;>(rw [h] at q;cases q)
theorem RH.noExt (r:RH K ρ H hd){a:Addr}{φ : Heap→Prop}(h:H a=some (.ext φ)):a ∉ ρ:=fun z=>by
  rcases r.mut z with ⟨_,q⟩|⟨_,q⟩<;>(rw [h] at q;cases q)
structure Kp (ρ:List Addr) (H:Hp) (ρ':List Addr) (H':Hp):Prop where
  get:∀ (n:Nat) a,ρ[n]? = some a → ρ'[n]? = some a
  tup:∀ a vs,H a=some (.tup vs)→H' a=some (.tup vs)
  frz:∀ a o u,H a=some (.frz o u)→H' a=some (.frz o u)
  ext:∀ a φ,H a=some (.ext φ)→H' a=some (.ext φ)
theorem RH.kp (r:RH K ρ H hd)(e:Ext ρ H ρ' H'):Kp ρ H ρ' H' :=
  ⟨fun _ _ h=>e.get h,fun _ _ h=>e.frame _ _ h (r.noTup h),fun _ _ _ h=>e.frame _ _ h (r.noFrz h),fun _ _ h=>e.frame _ _ h (r.noExt h)⟩
theorem Kp.same (s:lH H H'):Kp ρ H ρ H':=⟨fun _ _ h=>h,fun _ _ h=>s _ _ h,fun _ _ _ h=>s _ _ h,fun _ _ h=>s _ _ h⟩
theorem m8.mono {a:Addr}{xs:List V}(k:Kp ρ H ρ' H')(h:m8 K H a xs):m8 K H' a xs:=by
  rcases h with ⟨o,h⟩|h
  · exact .inl ⟨o,k.frz _ _ _ h⟩
  · exact .inr h
mutual
theorem RD.mono (k:Kp ρ H ρ' H'):∀ {d:D} {v:V},RD K ρ H d v→RD K ρ' H' d v
  | .non,_,h=>by simp only [RD] at h ⊢;exact h
  | .bl _,_,h=>by simp only [RD] at h ⊢;exact h
  | .int _,_,h=>by simp only [RD] at h ⊢;exact h
  | .str _,_,h=>by simp only [RD] at h ⊢;exact h
  | .tup l,_,h=>by
    simp only [RD] at h ⊢
    obtain⟨p,vs,e,h1,h2⟩:=h
    exact⟨p,vs,e,k.tup _ _ h1,RDs.mono k h2⟩
  | .lit l,_,h=>by
    simp only [RD] at h ⊢
    obtain⟨p,vs,e,h1,h2⟩:=h
    exact⟨p,vs,e,h1.mono k,RDs.mono k h2⟩
  | .ref n,_,h=>by
    simp only [RD] at h ⊢
    obtain⟨a,h1,h2⟩:=h
    exact⟨a,k.get _ _ h1,h2⟩
  | .exn _ _,_,h=>by
    simp only [RD] at h ⊢
    obtain⟨e0,a,C,e,h1,h2⟩:=h
    exact⟨e0,a,C,e,k.ext _ _ h1,h2⟩
theorem RDs.mono (k:Kp ρ H ρ' H'):∀ {l:List D} {vs:List V},RDs K ρ H l vs→RDs K ρ' H' l vs
  | [],_,h=>by simp only [RDs] at h ⊢;exact h
  | d :: ds,_,h=>by
    simp only [RDs] at h ⊢
    obtain⟨v,r,e,h1,h2⟩:=h
    exact⟨v,r,e,RD.mono k h1,RDs.mono k h2⟩
end
theorem RDs.nil:RDs K ρ H [] []:=by simp only [RDs]
theorem RDs.cons {d:D}{v:V}{ds:List D}{vs:List V}(h:RD K ρ H d v)(t:RDs K ρ H ds vs):RDs K ρ H (d :: ds) (v :: vs):=by
  simp only [RDs];exact⟨v,vs,rfl,h,t⟩
theorem RDs.length:∀ {l:List D} {vs:List V},RDs K ρ H l vs→l.length=vs.length
  | [],_,h=>by simp only [RDs] at h;subst h;rfl
  | d :: ds,_,h=>by
    simp only [RDs] at h
    obtain⟨v,r,e,h1,h2⟩:=h
    subst e
    simp [RDs.length h2]
theorem RDs.get:∀ {l:List D} {vs:List V} {i:Nat} {d:D},RDs K ρ H l vs→l[i]? = some d → ∃ v,vs[i]? = some v∧RD K ρ H d v
  | [],_,i,_,_,e=>by simp at e
  | d :: ds,_,0,_,h,e=>by
    simp only [RDs] at h
    obtain⟨v,r,e',h1,h2⟩:=h
    subst e'
    simp at e
    subst e
    exact⟨v,rfl,h1⟩
  | d :: ds,_,i + 1,x,h,e=>by
    simp only [RDs] at h
    obtain⟨v,r,e',h1,h2⟩:=h
    subst e'
    obtain⟨w,hw,q⟩:=RDs.get (i:=i) (d:=x) h2 (by simpa using e)
    exact⟨w,by simpa using hw,q⟩
theorem RDs.set {d:D}{v:V}(h:RD K ρ H d v):∀ {l:List D} {vs:List V} (i:Nat),RDs K ρ H l vs→RDs K ρ H (l.set i d) (vs.set i v)
  | [],_,_,q=>by simp only [RDs] at q;subst q;exact RDs.nil
  | x :: xs,_,i,q=>by
    simp only [RDs] at q
    obtain⟨w,r,e,h1,h2⟩:=q
    subst e
    cases i with
    | zero=>exact RDs.cons h h2
    | succ i=>exact RDs.cons h1 (RDs.set h i h2)
theorem RDs.append:∀ {l l':List D} {vs vs':List V},RDs K ρ H l vs→RDs K ρ H l' vs'→RDs K ρ H (l++l') (vs++vs')
  | [],_,_,_,h,q=>by simp only [RDs] at h;subst h;exact q
  | d :: ds,_,_,_,h,q=>by
    simp only [RDs] at h
    obtain⟨v,r,e,h1,h2⟩:=h
    subst e
    exact RDs.cons h1 (RDs.append h2 q)
theorem RDs.take:∀ {l:List D} {vs:List V} (n:Nat),RDs K ρ H l vs→RDs K ρ H (l.take n) (vs.take n)
  | _,_,0,_=>by simp;exact RDs.nil
  | [],_,n + 1,h=>by simp only [RDs] at h;subst h;exact RDs.nil
  | d :: ds,_,n + 1,h=>by
    simp only [RDs] at h
    obtain⟨v,r,e,h1,h2⟩:=h
    subst e
    exact RDs.cons h1 (RDs.take n h2)
theorem RDs.drop:∀ {l:List D} {vs:List V} (n:Nat),RDs K ρ H l vs→RDs K ρ H (l.drop n) (vs.drop n)
  | _,_,0,h=>by simpa using h
  | [],_,n + 1,h=>by simp only [RDs] at h;subst h;exact RDs.nil
  | d :: ds,_,n + 1,h=>by
    simp only [RDs] at h
    obtain⟨v,r,e,h1,h2⟩:=h
    subst e
    simpa using RDs.drop n h2
theorem RC.mono {c:ec}{a:Addr}(k:Kp ρ H ρ' H')(e:H' a=H a)(h:RC K ρ H c a):RC K ρ' H' c a:=by
  cases c with
  | lst l=>obtain⟨vs,h1,h2⟩:=h;exact⟨vs,e.trans h1,h2.mono k⟩
  | dct l=>obtain⟨vs,h1,h2,h3⟩:=h;exact⟨vs,e.trans h1,h2,h3.mono k⟩
theorem RH.same (r:RH K ρ H hd)(s:lH H H'):RH K ρ H' hd :=
  ⟨r.len,r.nd,fun n c a h1 h2=>(r.cel n c a h1 h2).mono (Kp.same s) (by
    rcases r.mut (List.mem_of_getElem? h2) with ⟨_,q⟩|⟨_,q⟩<;>rw [q,s _ _ q])⟩
theorem RSt.mono (k:Kp ρ H ρ' H')(r:RSt K ρ H σd σ):RSt K ρ' H' σd σ :=
  ⟨r.len,fun i d h=>let ⟨v,h1,h2⟩:=r.at' i d h;⟨v,h1,h2.mono k⟩⟩
theorem RS.same (r:RS K ρ H σd hd σ)(s:lH H H'):RS K ρ H' σd hd σ:=⟨r.hp.same s,r.st.mono (Kp.same s)⟩
theorem cm {p:Addr}{o:HO}(h:H p=none):lH H (upd H p o):=fun b u e=>by
  rw [aB (aC e h)];exact e
theorem RH.alloc (r:RH K ρ H hd){p:Addr}{l:List D}{vs:List V}(hp:H p=some (.lst vs))(hn:p ∉ ρ)(h:RDs K ρ H l vs):RH K (ρ ++ [p]) H (hd++[.lst l]):=by
  have k:Kp ρ H (ρ ++ [p]) H:=⟨fun n a e=>by rw [List.getElem?_append_left (List.getElem?_eq_some_iff.mp e).1];exact e,fun _ _ h=>h,fun _ _ _ h=>h,fun _ _ h=>h⟩
  refine⟨by simp [r.len],?_,fun n c a h1 h2 => ?_⟩
  · rw [List.nodup_append]
    exact⟨r.nd,by simp,fun a ha b hb=>by simp at hb;subst hb;intro e;subst e;exact hn ha⟩
  · by_cases hlt:n < hd.length
    · rw [List.getElem?_append_left hlt] at h1
      rw [List.getElem?_append_left (by rw [r.len];exact hlt)] at h2
      exact (r.cel n c a h1 h2).mono k rfl
    · have e1:n=hd.length:=by
        have:=(List.getElem?_eq_some_iff.mp h1).1
        simp at this
        omega
      subst e1
      simp at h1
      subst h1
      rw [← r.len] at h2
      simp at h2
      subst h2
      exact⟨vs,hp,h.mono k⟩
theorem wu {α : Type}:∀ {l:List α},l.Nodup → ∀ {i j:Nat} {x : α},l[i]? = some x→l[j]? = some x→i=j
  | [],_,i,_,_,e,_=>by simp at e
  | a :: l,nd,0,0,_,_,_=>rfl
  | a :: l,nd,0,j + 1,x,e,e'=>by
    simp at e e'
    subst e
    exact absurd (List.mem_of_getElem? e') (List.nodup_cons.mp nd).1
  | a :: l,nd,i + 1,0,x,e,e'=>by
    simp at e e'
    subst e'
    exact absurd (List.mem_of_getElem? e) (List.nodup_cons.mp nd).1
  | a :: l,nd,i + 1,j + 1,x,e,e'=>by
    simp at e e'
    rw [wu (List.nodup_cons.mp nd).2 e e']
theorem RH.write (r:RH K ρ H hd){n:Nat}{p:Addr}{l:List D}{vs:List V}(hp : ρ[n]? = some p)(hn:n < hd.length)(h:RDs K ρ H l vs):RH K ρ (upd H p (.lst vs)) (hd.set n (.lst l)):=by
  have k:Kp ρ H ρ (upd H p (.lst vs)):=by
    have hm:=List.mem_of_getElem? hp
    refine⟨fun _ _ h=>h,fun a us e => ?_,fun a o u e => ?_,fun a φ e => ?_⟩
    · rw [aB (fun z=>r.noTup e (by rw [z];exact hm))];exact e
    · rw [aB (fun z=>r.noFrz e (by rw [z];exact hm))];exact e
    · rw [aB (fun z=>r.noExt e (by rw [z];exact hm))];exact e
  refine⟨by simp [r.len],r.nd,fun m c a h1 h2 => ?_⟩
  by_cases e:n=m
  · subst e
    rw [List.getElem?_set_self hn] at h1
    cases h1
    rw [hp] at h2
    cases h2
    exact⟨vs,bi,h.mono k⟩
  · rw [List.getElem?_set_ne e] at h1
    have ne:a≠p:=fun z=>by
      subst z
      exact e (wu r.nd hp h2)
    exact (r.cel m c a h1 h2).mono k (aB ne)
theorem Ext.write {p:Addr}{o:HO}(hp:p ∈ ρ):Ext ρ H ρ (upd H p o) :=
  ⟨⟨[],by simp⟩,fun _ h=>.inl h,fun q u e n=>by rw [aB (fun z=>n (by rw [z];exact hp))];exact e⟩
theorem Ext.alloc {p:Addr}(h:H p=none){o:HO}:Ext ρ H (ρ ++ [p]) (upd H p o) :=
  ⟨⟨[p],rfl⟩,fun a ha=>by
    rcases List.mem_append.mp ha with q|q
    · exact .inl q
    · simp at q;subst q;exact .inr h,fun q u e _=>cm h q u e⟩
theorem RS.ext (r:RS K ρ H σd hd σ)(e:Ext ρ H ρ' H')(h:RH K ρ' H' hd'):RS K ρ' H' σd hd' σ:=⟨h,r.st.mono (r.hp.kp e)⟩
end
end Fm
set_option Elab.async false
set_option linter.all false
set_option maxRecDepth 100000
namespace Fm
open PySem PySem.Spec L2
abbrev VR (α β : Type):=List Addr→Hp → α → β → Prop
section
variable (K:PySem.W.Frag)
def bw {α β : Type} (R:VR α β) (ρ:List Addr) (H:Hp) (σd:Sd) (σ:St) (r:Res α) (Q : β → Hp→Prop):Prop:=match r with
  | .ok a hd'=>∀ b H' ρ',Ext ρ H ρ' H'→RS K ρ' H' σd hd' σ → R ρ' H' a b→Q b H'
  | _=>False
def jT {α β : Type} (R:VR α β) (f:Sd→Hd→Res α):St→Hp→(β → Hp→Prop)→Prop:=fun σ H Q =>
  ∃ ρ σd hd,RS K ρ H σd hd σ ∧ bw K R ρ H σd σ (f σd hd) Q
abbrev rD:VR D V:=fun ρ H d v=>RD K ρ H d v
abbrev rDs:VR (List D) (List V):=fun ρ H d v=>RDs K ρ H d v
abbrev rB:VR Bool Bool:=fun _ _ a b=>a=b
abbrev rO:VR (Option Int) (Option Int):=fun _ _ a b=>a=b
def rQ:VR (List D) V:=fun ρ H l v=>∃ p vs,v=.ref p∧(SqL K H p vs∨H p=some (.tup vs))∧RDs K ρ H l vs
def A1 (ρ:List Addr) (H:Hp) (σd:Sd) (σ:St) (r:Res (List D)) (Q:VK):Prop:=match r with
  | .ok l hd'=>∀ q vs H' ρ',Ext ρ H ρ' H'→RS K ρ' H' σd hd' σ → H q=none→H' q=some (.lst vs)→q ∉ ρ'→RDs K ρ' H' l vs→Q (.ref q) H'
  | _=>False
def Ki (f:LF):TE:=fun σ H Q=>∃ ρ σd hd,RS K ρ H σd hd σ ∧ A1 K ρ H σd σ (f σd hd) Q
def bZ (ρ:List Addr) (H:Hp) (o:Out) (E:wf):Prop:=match o with
  | .nx σd hd=>∀ σ H' ρ',Ext ρ H ρ' H'→RS K ρ' H' σd hd σ → E.nx σ H'
  | .bk σd hd=>∀ σ H' ρ',Ext ρ H ρ' H'→RS K ρ' H' σd hd σ → E.bk σ H'
  | .ct σd hd=>∀ σ H' ρ',Ext ρ H ρ' H'→RS K ρ' H' σd hd σ → E.ct σ H'
  | .rt d hd=>∀ v H' ρ',Ext ρ H ρ' H'→RH K ρ' H' hd→RD K ρ' H' d v→E.rt v H'
  | _=>False
def HN (f:SF):TS:=fun E σ H=>∃ ρ σd hd,RS K ρ H σd hd σ ∧ bZ K ρ H (f σd hd) E
end
def ME (X:Cx) (e:Expr) (f:EF):Prop:=PE X e (jT X.K (rD X.K) f)
def MQ (X:Cx) (e:Expr) (f:LF):Prop:=PE X e (jT X.K (rQ X.K) f)
def MF (X:Cx) (e:Expr) (f:LF):Prop:=PE X e (Ki X.K f)
def MT (X:Cx) (e:Expr) (f:TF):Prop:=PT X e (jT X.K rB f)
def MW (X:Cx) (e:Expr) (f:TF):Prop:=PW X e (jT X.K rB f)
def MA (X:Cx) (es:List Expr) (f:LF):Prop:=PA X es (jT X.K (rDs X.K) f)
def MS (X:Cx) (s:Stmt) (f:SF):Prop:=PS X s (HN X.K f)
def MSs (X:Cx) (s:List Stmt) (f:SF):Prop:=PSs X s (HN X.K f)
section
variable {X:Cx}
theorem PE.imp {e:Expr}{t u:TE}(h:PE X e t)(i:∀ σ H Q,u σ H Q→t σ H Q):PE X e u:=fun pins s σ H Q I q=>h pins s σ H Q I (i σ H Q q)
theorem PT.imp {e:Expr}{t u:TT}(h:PT X e t)(i:∀ σ H Q,u σ H Q→t σ H Q):PT X e u:=fun pins s σ H Q I q=>h pins s σ H Q I (i σ H Q q)
theorem PW.imp {e:Expr}{t u:TT}(h:PW X e t)(i:∀ σ H Q,u σ H Q→t σ H Q):PW X e u:=fun w pins s σ H Q I q=>h w pins s σ H Q I (i σ H Q q)
theorem PA.imp {e:List Expr}{t u:TA}(h:PA X e t)(i:∀ σ H Q,u σ H Q→t σ H Q):PA X e u:=fun p pins s σ H Q I q=>h p pins s σ H Q I (i σ H Q q)
theorem PS.imp {e:Stmt}{t u:TS}(h:PS X e t)(i:∀ D σ H,u D σ H→t D σ H):PS X e u:=fun pins s σ H D I q=>h pins s σ H D I (i D σ H q)
theorem PSs.imp {e:List Stmt}{t u:TS}(h:PSs X e t)(i:∀ D σ H,u D σ H→t D σ H):PSs X e u:=fun pins s σ H D I q=>h pins s σ H D I (i D σ H q)
end
section
variable {K:PySem.W.Frag} {ρ ρ':List Addr} {H H':Hp} {hd hd':Hd} {σd:Sd} {σ:St} {α β α' β':Type} {R:VR α β} {R':VR α' β'}
theorem bw.here {a : α}{b : β}{Q : β → Hp→Prop}(h:bw K R ρ H σd σ (.ok a hd) Q)(r:RS K ρ H σd hd σ)(q:R ρ H a b):Q b H:=h b H ρ Ext.refl r q
theorem bw.at {a : α}{b : β}{Q : β → Hp→Prop}(h:bw K R ρ H σd σ (.ok a hd) Q)(e:Ext ρ H ρ' H')(r:RS K ρ' H' σd hd σ)(q:R ρ' H' a b):Q b H':=h b H' ρ' e r q
theorem bw.imp {r:Res α}{Q Q' : β → Hp→Prop}(h:bw K R ρ H σd σ r Q)(i:∀ b H',Q b H'→Q' b H'):bw K R ρ H σd σ r Q':=by
  cases r with
  | ok a h'=>exact fun b H' ρ' e s q=>i b H' (h b H' ρ' e s q)
  | exc x h'=>exact h
  | bad=>exact h
theorem bw.ext {r:Res α}{Q : β → Hp→Prop}(e:Ext ρ H ρ' H')(h:bw K R ρ H σd σ r Q):bw K R ρ' H' σd σ r Q:=by
  cases r with
  | ok a h'=>exact fun b H'' ρ'' e' s q=>h b H'' ρ'' (e.trans e') s q
  | exc x h'=>exact h
  | bad=>exact h
theorem bw.bind {r:Res α}{k : α → Hd→Res α'}{Q : β'→Hp→Prop}(h:bw K R' ρ H σd σ (r.bind k) Q) :
    bw K R ρ H σd σ r (fun b H'=>∃ ρ' a hd',Ext ρ H ρ' H'∧RS K ρ' H' σd hd' σ ∧ R ρ' H' a b∧bw K R' ρ' H' σd σ (k a hd') Q):=by
  cases r with
  | ok a h'=>exact fun b H' ρ' e s q=>⟨ρ',a,h',e,s,q,bw.ext e h⟩
  | exc x h'=>exact h
  | bad=>exact h
theorem bZ.ext {o:Out}{E:wf}(e:Ext ρ H ρ' H')(h:bZ K ρ H o E):bZ K ρ' H' o E:=by
  cases o with
  | nx σ h'=>exact fun σ' H'' ρ'' e' s=>h σ' H'' ρ'' (e.trans e') s
  | bk σ h'=>exact fun σ' H'' ρ'' e' s=>h σ' H'' ρ'' (e.trans e') s
  | ct σ h'=>exact fun σ' H'' ρ'' e' s=>h σ' H'' ρ'' (e.trans e') s
  | rt d h'=>exact fun v H'' ρ'' e' s q=>h v H'' ρ'' (e.trans e') s q
  | exc x σ h'=>exact h
  | bad=>exact h
end
section
variable {X:Cx} {pos:Pos}
theorem IR {i:Nat} {x:Str} (hN:X.N[i]? = some x) (hv:Vis X.env.scope x) (hd:(x == ("__debug__" : Str))=false:=by decide) (hcd:(x == ("__classdict__" : Str))=false:=by decide):ME X (.Name x pos) (aa i):=by
  refine PE.imp (Ib hN hv hd hcd) fun σ H Q ⟨ρ,σd,hd,r,h⟩ => ?_
  unfold aa at h
  cases e:slot σd i with
  | none=>rw [e] at h;exact h.elim
  | some d =>
    rw [e] at h
    obtain⟨v,h1,h2⟩:=r.st.at' i d e
    exact⟨v,h1,h.here r h2⟩
theorem tO {K:PySem.W.Frag}{d:D}{v:V}(hv:∀ ρ H,RD K ρ H d v):∀ σ H Q,jT K (rD K) (fC d) σ H Q→tC v σ H Q:=fun _ H _ ⟨ρ,_,_,r,h⟩=>h.here r (hv ρ H)
theorem ag {i:Int}{j}:ME X (.Constant (.int i) j pos) (fC (.int i)):=PE.imp Dp (tO fun _ _=>by simp only [RD])
theorem fY {b j}:ME X (.Constant (.bool b) j pos) (fC (.bl b)):=PE.imp JQ (tO fun _ _=>by simp only [RD])
theorem eD {j}:ME X (.Constant .none j pos) (fC .non):=PE.imp Ic (tO fun _ _=>by simp only [RD])
theorem gy {x:Str}{j}(l:List Nat)(h:x=toS l):ME X (.Constant (.str x) j pos) (fC (.str l)):=PE.imp Id (tO fun _ _=>by simp only [RD];rw [h])
theorem me2 {a b:Expr}{fa fb:EF}{r:R2}{g:O2}{e:Expr}(h:PE X e (tOp r (jT X.K (rD X.K) fa) (jT X.K (rD X.K) fb)))
    (hg:∀ ρ H σd hd σ d k v w Q,RS X.K ρ H σd hd σ → RD X.K ρ H d v→RD X.K ρ H k w→bw X.K (rD X.K) ρ H σd σ (g d k hd) Q→r v w H Q):ME X e (ak g fa fb):=by
  refine PE.imp h fun σ H Q ⟨ρ,σd,hd,rs,p⟩ => ?_
  refine⟨ρ,σd,hd,rs,(bw.bind (R:=rD X.K) p).imp fun v H1 ⟨ρ1,d,hd1,e1,rs1,rv,p1⟩ => ?_⟩
  refine⟨ρ1,σd,hd1,rs1,(bw.bind (R:=rD X.K) p1).imp fun w H2 ⟨ρ2,k,hd2,e2,rs2,rw',p2⟩ => ?_⟩
  exact hg ρ2 H2 σd hd2 σ d k v w Q rs2 (rv.mono (rs1.hp.kp e2)) rw' p2
def Og (K:PySem.W.Frag) (g:O2) (r:R2):Prop:=∀ ρ H σd hd σ d k v w Q,RS K ρ H σd hd σ → RD K ρ H d v→RD K ρ H k w→bw K (rD K) ρ H σd σ (g d k hd) Q→r v w H Q
theorem aP {a b:Expr}{fa fb:EF}{op:Operator}{r:R2}{g:O2}(ho:OpR X (binaryOp op) r)(hg:Og X.K g r)(ha:ME X a fa)(hb:ME X b fb):ME X (.BinOp a op b pos) (ak g fa fb) :=
  me2 (a:=a) (b:=b) (HJ ho ha hb) hg
theorem im {a b:Expr}{fa fb:EF}{op:CmpOp}{r:R2}{g:O2}(ho:OpR X (compareOp op) r)(hg:Og X.K g r)(ha:ME X a fa)(hb:ME X b fb)(hm:behindInMarks op b=false):ME X (.Compare a [op] [b] pos) (ak g fa fb) :=
  me2 (a:=a) (b:=b) (FX ho ha hb hm) hg
theorem oM {K:PySem.W.Frag}{g:Int→Int→Int}:Og K (oI g) (rI0 fun i j=>.int (g i j)):=by
  intro ρ H σd hd σ d k v w Q rs rv rw' p
  cases d<;>cases k<;>first|exact p.elim|skip
  simp only [RD] at rv rw'
  exact⟨_,_,rv,rw',p.here rs (by simp only [rD,RD])⟩
theorem jU {K:PySem.W.Frag}{g:Int→Int→Bool}:Og K (oB g) (rI0 fun i j=>.bl (g i j)):=by
  intro ρ H σd hd σ d k v w Q rs rv rw' p
  cases d<;>cases k<;>first|exact p.elim|skip
  simp only [RD] at rv rw'
  exact⟨_,_,rv,rw',p.here rs (by simp only [rD,RD])⟩
theorem A2 {K:PySem.W.Frag}{c:Int→Int→Bool}{C:Int→Int→Prop}{g:Int→Int→Int}(hc:∀ i j,c i j=true→C i j):Og K (oIc c g) (rI C fun i j=>.int (g i j)):=by
  intro ρ H σd hd σ d k v w Q rs rv rw' p
  cases d<;>cases k<;>first|exact p.elim|skip
  rename_i i j
  simp only [RD] at rv rw'
  cases e:c i j with
  | false=>simp only [oIc,e] at p;exact p.elim
  | true =>
    simp only [oIc,e,if_true] at p
    exact⟨i,j,rv,rw',hc i j e,p.here rs (by simp only [rD,RD])⟩
theorem tP {i:Int}(h:sml i=true) : -(2 ^ 64) < i∧i < 2 ^ 64:=by
  simp only [sml,Bool.and_eq_true,decide_eq_true_eq] at h;exact h
theorem eE {K:PySem.W.Frag}:Og K fj (rI FW fun i j=>.int (i * j)):=A2 fun i j h=>by
  rcases (Bool.or_eq_true _ _).mp h with q|q
  · exact .inl (tP q)
  · exact .inr (tP q)
theorem gA {K:PySem.W.Frag}:Og K kg (rI (fun _ j=>0 < j) fun i j=>.int (i % j)):=A2 fun i j h=>of_decide_eq_true h
def Kj (_ j:Int):Prop:=0 < j∧j < 2 ^ 250
theorem wv:OpR X (binaryOp .FloorDiv) (rI Kj fun i j=>.int (i / j)):=opI fun i j _ _ _ _ _ hc q=>by
  have h0:j≠0:=by have:=hc.1;omega
  refine PyProof.Rows.floordiv_int h0 (by rw [Int.fdiv_eq_ediv_of_nonneg _ (Int.le_of_lt hc.1)];exact q) (.inl (PyProof.noPylong_of_log2 ?_))
  have h2:j.natAbs < 2 ^ 250:=by have:=hc.2;have:=hc.1;omega
  have h3:j.natAbs≠0:=by omega
  have:=(Nat.log2_lt h3).mpr h2
  omega
theorem DK {K:PySem.W.Frag}:Og K IO (rI Kj fun i j=>.int (i / j)):=A2 fun i j h=>by
  simp only [Bool.and_eq_true,decide_eq_true_eq] at h;exact h
theorem DM {K:PySem.W.Frag}:Og K IP (rI J3 fun i j=>.int (i ^ j.toNat)):=A2 fun i j h=>by
  simp only [Bool.and_eq_true,decide_eq_true_eq] at h
  have:=tP h.2
  exact⟨h.1.1,h.1.2,by omega⟩
theorem tQ {K:PySem.W.Frag}{ρ:List Addr}{H:Hp}{d:D}{v:V}(h:RD K ρ H d v):oH d=decide (v=.non):=by
  cases d<;>simp only [RD] at h
  · subst h;rfl
  · subst h;rfl
  · subst h;rfl
  · subst h;rfl
  · obtain⟨p,vs,rfl,_⟩:=h;rfl
  · obtain⟨p,vs,rfl⟩:=h;rfl
  · obtain⟨p,vs,rfl,_⟩:=h;rfl
  · obtain⟨_,p,vs,rfl,_⟩:=h;rfl
theorem IS {K:PySem.W.Frag}:Og K Gg (fun x y H Q=>y=.non∧Q (.bl (decide (x=.non))) H):=by
  intro ρ H σd hd σ d k v w Q rs rv rw' p
  unfold Gg at p
  cases e:oH k with
  | false=>rw [e] at p;exact p.elim
  | true =>
    rw [e,if_pos rfl] at p
    refine⟨of_decide_eq_true ((tQ rw').symm.trans e),?_⟩
    rw [← tQ rv]
    exact p.here rs (by simp only [rD,RD])
theorem sn {K:PySem.W.Frag}:Og K kH (fun x y H Q=>y=.non∧Q (.bl (!decide (x=.non))) H):=by
  intro ρ H σd hd σ d k v w Q rs rv rw' p
  unfold kH at p
  cases e:oH k with
  | false=>rw [e] at p;exact p.elim
  | true =>
    rw [e,if_pos rfl] at p
    refine⟨of_decide_eq_true ((tQ rw').symm.trans e),?_⟩
    rw [← tQ rv]
    exact p.here rs (by simp only [rD,RD])
theorem lK {K:PySem.W.Frag}{ρ:List Addr}{H:Hp}{σd:Sd}{σ:St}{r:Res D}{Q:Bool→Hp→Prop}(h:bw K rB ρ H σd σ (asB r) Q):bw K (rD K) ρ H σd σ r (fun x H'=>∃ c,x=.bl c∧Q c H'):=by
  refine (bw.bind (R:=rD K) h).imp fun v H1 ⟨ρ1,d,hd1,e1,rs1,rv,p1⟩ => ?_
  cases d<;>first|exact p1.elim|skip
  simp only [rD,RD] at rv
  exact⟨_,rv,p1.here rs1 rfl⟩
theorem i4 {e:Expr}{f:EF}(h:ME X e f)(he:∀ whole,isTrue e X.env whole=(do let v ← whole;standAt e.pos;holding [v] (truthy v)):=by intro _;rfl):MT X e (tE f) :=
  PT.imp (Ie h he) fun σ H Q ⟨ρ,σd,hd,rs,p⟩=>⟨ρ,σd,hd,rs,lK p⟩
theorem aU {a b:Expr}{fa fb:EF}{op:CmpOp}{r:R2}{g:O2}(ho:OpR X (compareOp op) r)(hg:Og X.K g r)(ha:ME X a fa)(hb:ME X b fb)(hm:behindInMarks op b=false):MT X (.Compare a [op] [b] pos) (tE (ak g fa fb)):=by
  refine PT.imp (FY ho ha hb hm) fun σ H Q ⟨ρ,σd,hd,rs,p⟩ => ?_
  have p:=lK p
  refine⟨ρ,σd,hd,rs,(bw.bind (R:=rD X.K) p).imp fun v H1 ⟨ρ1,d,hd1,e1,rs1,rv,p1⟩ => ?_⟩
  refine⟨ρ1,σd,hd1,rs1,(bw.bind (R:=rD X.K) p1).imp fun w H2 ⟨ρ2,k,hd2,e2,rs2,rw',p2⟩ => ?_⟩
  exact hg ρ2 H2 σd hd2 σ d k v w _ rs2 (rv.mono (rs1.hp.kp e2)) rw' p2
theorem i5 {a:Expr}{t:TF}(h:MT X a t):MT X (.UnaryOp .Not a pos) (ib t):=by
  refine PT.imp (Ii h) fun σ H Q ⟨ρ,σd,hd,rs,p⟩=>⟨ρ,σd,hd,rs,(bw.bind (R:=rB) p).imp fun c H1 ⟨ρ1,d,hd1,e1,rs1,rv,p1⟩ => ?_⟩
  cases rv
  exact p1.here rs1 rfl
theorem gB {op a}{t:TF}(h:MT X a t)(ho:op=BoolOp.And∨op=BoolOp.Or):MW X (.BoolOp op [a] pos) t:=by
  rcases ho with rfl|rfl
  · exact FQ h
  · exact Ig h
theorem tR {a b:Expr}{rest:List Expr}{t u:TF}(ha:MT X a t)(hb:MW X (.BoolOp .And (b :: rest) pos) u):MW X (.BoolOp .And (a :: b :: rest) pos) (iX t u):=by
  refine PW.imp (Ih ha hb) fun σ H Q ⟨ρ,σd,hd,rs,p⟩=>⟨ρ,σd,hd,rs,(bw.bind (R:=rB) p).imp fun c H1 ⟨ρ1,d,hd1,e1,rs1,rv,p1⟩ => ?_⟩
  cases rv
  cases c with
  | true=>simp only [if_true] at p1 ⊢;exact⟨ρ1,σd,hd1,rs1,p1⟩
  | false=>simp only [Bool.false_eq_true,if_false] at p1 ⊢;exact p1.here rs1 rfl
theorem oN {a b:Expr}{rest:List Expr}{t u:TF}(ha:MT X a t)(hb:MW X (.BoolOp .Or (b :: rest) pos) u):MW X (.BoolOp .Or (a :: b :: rest) pos) (tOr t u):=by
  refine PW.imp (JR ha hb) fun σ H Q ⟨ρ,σd,hd,rs,p⟩=>⟨ρ,σd,hd,rs,(bw.bind (R:=rB) p).imp fun c H1 ⟨ρ1,d,hd1,e1,rs1,rv,p1⟩ => ?_⟩
  cases rv
  cases c with
  | true=>simp only [if_true] at p1 ⊢;exact p1.here rs1 rfl
  | false=>simp only [Bool.false_eq_true,if_false] at p1 ⊢;exact⟨ρ1,σd,hd1,rs1,p1⟩
theorem MW.mt {e:Expr}{t:TF}(h:MW X e t):MT X e t:=h.pt
theorem Gi {K:PySem.W.Frag}{t:TF}{σ:St}{H:Hp}{Q:VK}(h:jT K (rD K) (fT t) σ H Q):jT K rB t σ H (fun b H'=>Q (.bl b) H'):=by
  obtain⟨ρ,σd,hd,rs,p⟩:=h
  refine⟨ρ,σd,hd,rs,(bw.bind (R:=rB) p).imp fun c H1 ⟨ρ1,d,hd1,e1,rs1,rv,p1⟩ => ?_⟩
  cases rv
  exact p1.here rs1 (by simp only [rD,RD])
def MB (X:Cx) (e:Expr) (t:TF):Prop:=PE X e (fun σ H Q=>jT X.K rB t σ H fun b H'=>Q (.bl b) H')
theorem MB.me {e:Expr}{t:TF}(h:MB X e t):ME X e (fT t):=PE.imp h fun _ _ _ q=>Gi q
theorem jV {e:Expr}{f:EF}(h:ME X e f):MB X e (tE f):=by
  refine PE.imp h fun σ H Q ⟨ρ,σd,hd,rs,p⟩=>⟨ρ,σd,hd,rs,(lK p).imp ?_⟩
  rintro v H1 ⟨c,rfl,q⟩
  exact q
theorem oO {op a}{t:TF}(h:MB X a t):MB X (.BoolOp op [a] pos) t:=Ij h
theorem oP {a b:Expr}{rest:List Expr}{t u:TF}(ha:MB X a t)(hb:MB X (.BoolOp .And (b :: rest) pos) u):MB X (.BoolOp .And (a :: b :: rest) pos) (iX t u):=by
  refine PE.imp (Ik ha hb) fun σ H Q ⟨ρ,σd,hd,rs,p⟩=>⟨ρ,σd,hd,rs,(bw.bind (R:=rB) p).imp fun c H1 ⟨ρ1,d,hd1,e1,rs1,rv,p1⟩=>⟨c,rfl,?_⟩⟩
  cases rv
  cases c with
  | true=>simp only [if_true] at p1 ⊢;exact⟨ρ1,σd,hd1,rs1,p1⟩
  | false=>simp only [Bool.false_eq_true,if_false] at p1 ⊢;exact p1.here rs1 rfl
theorem IT {a:Expr}{t:TF}(h:MB X a t):MB X (.UnaryOp .Not a pos) (ib t):=by
  refine PE.imp (Im h) fun σ H Q ⟨ρ,σd,hd,rs,p⟩=>⟨ρ,σd,hd,rs,(bw.bind (R:=rB) p).imp fun c H1 ⟨ρ1,d,hd1,e1,rs1,rv,p1⟩=>⟨c,rfl,?_⟩⟩
  cases rv
  exact p1.here rs1 rfl
theorem DN {c a b:Expr}{t:TF}{fa fb:EF}(hc:MT X c t)(ha:ME X a fa)(hb:ME X b fb):ME X (.IfExp c a b pos) (fIf t fa fb):=by
  refine PE.imp (Dq hc ha hb) fun σ H Q ⟨ρ,σd,hd,rs,p⟩=>⟨ρ,σd,hd,rs,(bw.bind (R:=rB) p).imp fun c H1 ⟨ρ1,d,hd1,e1,rs1,rv,p1⟩ => ?_⟩
  cases rv
  cases c with
  | true=>simp only [if_true] at p1 ⊢;exact⟨ρ1,σd,hd1,rs1,p1⟩
  | false=>simp only [Bool.false_eq_true,if_false] at p1 ⊢;exact⟨ρ1,σd,hd1,rs1,p1⟩
end
end Fm
set_option Elab.async false
set_option linter.all false
set_option maxRecDepth 100000
namespace Fm
open PySem PySem.Spec L2
section
variable {X:Cx} {pos:Pos}
theorem yD {K:PySem.W.Frag}{ρ:List Addr}{H:Hp}{σd:Sd}{hd:Hd}{σ:St}{r r':R2}{g k:O2}{fa fb fc:EF}{Q:VK}(hg:Og K g r)(hk:Og K k r')(rs:RS K ρ H σd hd σ)
    (p:bw K (rD K) ρ H σd σ (oJ g k fa fb fc σd hd) Q):DB r r' (jT K (rD K) fa) (jT K (rD K) fb) (jT K (rD K) fc) σ H Q:=by
  refine⟨ρ,σd,hd,rs,(bw.bind (R:=rD K) p).imp fun v H1 ⟨ρ1,d,hd1,e1,rs1,rv,p1⟩ => ?_⟩
  refine⟨ρ1,σd,hd1,rs1,(bw.bind (R:=rD K) p1).imp fun w H2 ⟨ρ2,d2,hd2,e2,rs2,rw2,p2⟩ => ?_⟩
  refine hg ρ2 H2 σd hd2 σ d d2 v w _ rs2 (rv.mono (rs1.hp.kp e2)) rw2 ((bw.bind (R:=rD K) p2).imp fun z H3 ⟨ρ3,d3,hd3,e3,rs3,rz,p3⟩ => ?_)
  cases d3<;>first|exact p3.elim|skip
  rename_i b
  simp only [rD,RD] at rz
  refine⟨b,rz,?_⟩
  cases b with
  | false =>
    rw [if_neg Bool.false_ne_true]
    exact p3.here rs3 (by simp only [rD,RD])
  | true =>
    rw [if_pos rfl]
    refine⟨ρ3,σd,hd3,rs3,(bw.bind (R:=rD K) p3).imp fun u H4 ⟨ρ4,d4,hd4,e4,rs4,ru,p4⟩ => ?_⟩
    exact hk ρ4 H4 σd hd4 σ d2 d4 w u Q rs4 ((rw2.mono (rs2.hp.kp e3)).mono (rs3.hp.kp e4)) ru p4
theorem DO {a b c:Expr}{fa fb fc:EF}{op op':CmpOp}{r r':R2}{g k:O2}(ho:OpR X (compareOp op) r)(ho':OpR X (compareOp op') r')(hg:Og X.K g r)(hk:Og X.K k r')(ha:ME X a fa)(hb:ME X b fb)(hc:ME X c fc)
    (hm:lastMarks [op,op'] [b,c] = false:=by with_unfolding_all rfl):ME X (.Compare a [op,op'] [b,c] pos) (oJ g k fa fb fc) :=
  PE.imp (DC ho ho' ha hb hc hm) fun _ _ _ ⟨_,_,_,rs,p⟩=>yD hg hk rs p
theorem al:MA X [] aq:=PA.imp df fun _ _ _ ⟨_,_,_,rs,p⟩=>p.here rs RDs.nil
theorem ae {e:Expr}{es:List Expr}{f:EF}{r:LF}(he:ME X e f)(hr:MA X es r)(hs:starEach (e :: es) X.env=(false,eval e X.env) :: starEach es X.env:=by rfl):MA X (e :: es) (af f r):=by
  refine PA.imp (bX he hr hs) fun σ H Q ⟨ρ,σd,hd,rs,p⟩ => ?_
  refine⟨ρ,σd,hd,rs,(bw.bind (R:=rD X.K) p).imp fun v H1 ⟨ρ1,d,hd1,e1,rs1,rv,p1⟩ => ?_⟩
  refine⟨ρ1,σd,hd1,rs1,(bw.bind (R:=rDs X.K) p1).imp fun vs H2 ⟨ρ2,ds,hd2,e2,rs2,rvs,p2⟩ => ?_⟩
  exact p2.here rs2 (RDs.cons (rv.mono (rs1.hp.kp e2)) rvs)
theorem og {n:Nat}(h:n≤SZ):n≤sizeLine:=Nat.le_trans h (by show 1000000≤2 ^ 24;decide)
theorem dI {es:List Expr}{k}{r:LF}(h:MA X es r):ME X (.Tuple es k pos) (gw r):=by
  refine PE.imp (IC h) fun σ H Q ⟨ρ,σd,hd,rs,p⟩ => ?_
  refine⟨ρ,σd,hd,rs,(bw.bind (R:=rDs X.K) p).imp fun vs H1 ⟨ρ1,ds,hd1,e1,rs1,rvs,p1⟩ => ?_⟩
  by_cases hz:ds.length≤SZ
  · rw [if_pos hz] at p1
    refine⟨by rw [← rvs.length];exact og hz,fun q hq => ?_⟩
    have sm:=cm (o:=HO.tup vs) hq
    exact p1.at (Ext.same sm) (rs1.same sm) (by simp only [rD,RD];exact⟨q,vs,rfl,bi,rvs.mono (Kp.same sm)⟩)
  · rw [if_neg hz] at p1;exact p1.elim
theorem Ext.fresh {ρ ρ':List Addr}{H H':Hp}{q:Addr}(e:Ext ρ H ρ' H')(h:H' q=none)(n:q ∉ ρ'):H q=none:=by
  cases z:H q with
  | none=>rfl
  | some o =>
    by_cases hq:q ∈ ρ
    · obtain⟨t,rfl⟩:=e.pre
      exact absurd (List.mem_append_left t hq) n
    · rw [e.frame q o z hq] at h;cases h
theorem RH.free {K:PySem.W.Frag}{ρ:List Addr}{H:Hp}{hd:Hd}(r:RH K ρ H hd){q:Addr}(h:H q=none):q ∉ ρ:=fun z=>by
  rcases r.mut z with ⟨_,e⟩|⟨_,e⟩<;>(rw [h] at e;cases e)
theorem A1.mk {K:PySem.W.Frag}{ρ ρ1:List Addr}{H H1:Hp}{hd1:Hd}{σd:Sd}{σ:St}{l:List D}{vs:List V}{Q:VK}(p:A1 K ρ H σd σ (.ok l hd1) Q)(e1:Ext ρ H ρ1 H1)(rs1:RS K ρ1 H1 σd hd1 σ)(r:RDs K ρ1 H1 l vs) :
    ∀ q,H1 q=none→Q (.ref q) (upd H1 q (.lst vs)):=fun q hq=>by
  have sm:=cm (o:=HO.lst vs) hq
  have nq:=rs1.hp.free hq
  exact p q vs _ ρ1 (e1.trans (Ext.same sm)) (rs1.same sm) (e1.fresh hq nq) bi nq (r.mono (Kp.same sm))
theorem db {es:List Expr}{r:LF}(h:MA X es r)(hz:∀ σd hd ds hd',r σd hd=.ok ds hd'→ds.length≤SZ):MF X (.List es pos) r:=by
  refine PE.imp (ID h) fun σ H Q ⟨ρ,σd,hd,rs,p⟩ => ?_
  refine⟨ρ,σd,hd,rs,?_⟩
  cases e:r σd hd with
  | exc x h'=>rw [e] at p;exact p
  | bad=>rw [e] at p;exact p
  | ok ds hd1 =>
    rw [e] at p
    intro vs H1 ρ1 e1 rs1 rvs
    exact⟨by rw [← RDs.length rvs];exact og (hz _ _ _ _ e),p.mk e1 rs1 rvs⟩
theorem aD {f:EF}{r:LF}{n:Nat}(h:∀ σd hd ds hd',r σd hd=.ok ds hd'→ds.length=n):∀ σd hd ds hd',af f r σd hd=.ok ds hd'→ds.length=n + 1:=by
  intro σd hd ds hd' e
  simp only [af] at e
  cases e1:f σd hd with
  | exc x h'=>rw [e1] at e;cases e
  | bad=>rw [e1] at e;cases e
  | ok d h1 =>
    rw [e1] at e
    simp only [aI] at e
    cases e2:r σd h1 with
    | exc x h'=>rw [e2] at e;cases e
    | bad=>rw [e2] at e;cases e
    | ok ds2 h2 =>
      rw [e2] at e
      simp only [aI] at e
      cases e
      simp [h _ _ _ _ e2]
theorem bO:∀ σd hd ds hd',aq σd hd=.ok ds hd'→ds.length=0:=by
  intro σd hd ds hd' e
  simp only [aq] at e
  cases e
  rfl
theorem dJ {e:Expr}{r:LF}(h:MF X e r):ME X e (cj r):=by
  refine PE.imp h fun σ H Q ⟨ρ,σd,hd,rs,p⟩=>⟨ρ,σd,hd,rs,?_⟩
  unfold cj at p
  cases e:r σd hd with
  | exc x h'=>rw [e] at p;exact p
  | bad=>rw [e] at p;exact p
  | ok ds hd1 =>
    rw [e] at p
    simp only [aI] at p
    intro q vs H1 ρ1 e1 rs1 hq0 hq hn rvs
    by_cases hz:ds.length≤SZ
    · rw [if_pos hz] at p
      have rh:=rs1.hp.alloc hq hn rvs
      have ex:Ext ρ H (ρ1++[q]) H1:=⟨by obtain⟨t,rfl⟩:=e1.pre;exact⟨t++[q],by simp⟩,fun a ha=>by
        rcases List.mem_append.mp ha with z|z
        · exact e1.new a z
        · simp at z;subst z;exact .inr hq0,e1.frame⟩
      refine p.at ex (rs.ext ex rh) ?_
      simp only [rD,RD]
      refine⟨q,?_,rfl⟩
      rw [← rs1.hp.len]
      simp
    · rw [if_neg hz] at p;exact p.elim
theorem eF {e:Expr}{r:LF}(h:MF X e r):MQ X e r:=by
  refine PE.imp h fun σ H Q ⟨ρ,σd,hd,rs,p⟩=>⟨ρ,σd,hd,rs,?_⟩
  cases e:r σd hd with
  | exc x h'=>rw [e] at p;exact p
  | bad=>rw [e] at p;exact p
  | ok ds hd1 =>
    rw [e] at p
    intro q vs H1 ρ1 e1 rs1 hq0 hq hn rvs
    exact p (.ref q) H1 ρ1 e1 rs1 ⟨q,vs,rfl,.inl (SqL.of hq),rvs⟩
theorem m8.sq {K:PySem.W.Frag}{H:Hp}{a:Addr}{xs:List V}(h:m8 K H a xs):SqL K H a xs:=by
  rcases h with ⟨o,h⟩|h
  · exact .inl (.inr ⟨o,h⟩)
  · exact .inr h
theorem tS {K:PySem.W.Frag}{ρ:List Addr}{H:Hp}{hd:Hd}{d:D}{v:V}{l:List D}(r:RH K ρ H hd)(h:RD K ρ H d v)(e:fW hd d=some l):∃ p vs,v=.ref p∧(SqL K H p vs∨H p=some (.tup vs))∧RDs K ρ H l vs:=by
  cases d<;>simp only [fW] at e<;>try (cases e;done)
  · cases e
    simp only [RD] at h
    obtain⟨p,vs,e1,e2,e3⟩:=h
    exact⟨p,vs,e1,.inr e2,e3⟩
  · rename_i n
    simp only [RD] at h
    obtain⟨a,e1,e2⟩:=h
    cases c:hd[n]? with
    | none=>rw [c] at e;cases e
    | some x =>
      rw [c] at e
      cases x with
      | dct l=>cases e
      | lst l' =>
        cases e
        obtain⟨vs,q1,q2⟩:=r.cel n _ a c e1
        exact⟨a,vs,e2,.inl (SqL.of q1),q2⟩
  · cases e
    simp only [RD] at h
    obtain⟨p,vs,e1,e2,e3⟩:=h
    exact⟨p,vs,e1,.inl e2.sq,e3⟩
theorem cQ {e:Expr}{f:EF}(h:ME X e f):MQ X e (lOf f):=by
  refine PE.imp h fun σ H Q ⟨ρ,σd,hd,rs,p⟩=>⟨ρ,σd,hd,rs,(bw.bind (R:=rD X.K) p).imp fun v H1 ⟨ρ1,d,hd1,e1,rs1,rv,p1⟩ => ?_⟩
  cases e:fW hd1 d with
  | none=>rw [e] at p1;exact p1.elim
  | some l=>rw [e] at p1;exact p1.here rs1 (tS rs1.hp rv e)
theorem A3 {K:PySem.W.Frag}{ρ:List Addr}{H:Hp}{l:List D}{vs:List V}{i:Int}{d:D}(r:RDs K ρ H l vs)(e:atI l i=some d):∃ v,L2.atI vs i=some v∧RD K ρ H d v:=by
  unfold atI at e
  unfold L2.atI
  have hl:=r.length
  have hx:ixN l.length i=L2.ixN vs.length i:=by rw [hl];rfl
  rw [hx] at e
  cases c:L2.ixN vs.length i with
  | none=>rw [c] at e;cases e
  | some j =>
    rw [c] at e
    simp only [Option.bind_some] at e ⊢
    exact r.get e
theorem aF {a b:Expr}{fa fb:EF}(ha:ME X a fa)(hb:ME X b fb)(hs:tI b):ME X (.Subscript a b pos) (fAt fa fb):=by
  refine me2 (a:=a) (b:=b) (g:=oAt) (HL IJ ha hb hs) fun ρ H σd hd σ d k v w Q rs rv rw' p => ?_
  unfold oAt at p
  cases e:fW hd d with
  | none=>rw [e] at p;exact p.elim
  | some l =>
    rw [e] at p
    cases k<;>first|exact p.elim|skip
    rename_i i
    simp only at p
    cases e2:atI l i with
    | none=>rw [e2] at p;exact p.elim
    | some x =>
      rw [e2] at p
      simp only [RD] at rw'
      obtain⟨q,vs,hv,sq,rvs⟩:=tS rs.hp rv e
      obtain⟨u,hu,ru⟩:=A3 rvs e2
      rcases sq with sq|sq
      · exact .inl ⟨q,vs,i,u,hv,rw',sq,hu,p.here rs ru⟩
      · exact .inr (.inl ⟨q,vs,i,u,hv,rw',SqT.of sq,hu,p.here rs ru⟩)
theorem sr {a b:Expr}{la:LF}{fb:EF}(ha:MF X a la)(hb:ME X b fb)(hs:tI b):ME X (.Subscript a b pos) (fIx la fb):=by
  refine PE.imp (HL A0 ha hb hs) fun σ H Q ⟨ρ,σd,hd,rs,p⟩=>⟨ρ,σd,hd,rs,?_⟩
  unfold fIx at p
  cases e:la σd hd with
  | exc x h'=>rw [e] at p;exact p
  | bad=>rw [e] at p;exact p
  | ok l hd1 =>
    rw [e] at p
    simp only [aI] at p
    intro q vs H1 ρ1 e1 rs1 hq0 hq hn rvs
    refine⟨ρ1,σd,hd1,rs1,(bw.bind (R:=rD X.K) (p.ext e1)).imp fun w H2 ⟨ρ2,k,hd2,e2,rs2,rw',p2⟩ => ?_⟩
    cases k<;>first|exact p2.elim|skip
    rename_i i
    simp only at p2
    cases e3:atI l i with
    | none=>rw [e3] at p2;exact p2.elim
    | some x =>
      rw [e3] at p2
      simp only [rD,RD] at rw'
      obtain⟨u,hu,ru⟩:=A3 (rvs.mono (rs1.hp.kp e2)) e3
      exact⟨q,vs,i,u,rfl,rw',SqL.of (e2.frame q _ hq hn),hu,p2.here rs2 ru⟩
end
end Fm
set_option Elab.async false
set_option linter.all false
set_option maxRecDepth 100000
namespace Fm
open PySem PySem.Spec L2
section
variable {X:Cx} {pos:Pos}
def B1 (X:Cx) (r:List V→Hp→VK→Prop) (x:Str) (p pos:Pos) (a:Expr):Prop:=∀ t,PA X [a] t→PE X (.Call (.Name x p) [a] [] pos) (tCB r t)
theorem DP {x:Str} {p:Pos} {a:Expr} {id:String} {r:List V→Hp→VK→Prop} (hc:fA X (.builtin id) r) (hg:Gl X x) (hm:X.mg x=none) (hv:bootBuiltins x=some (.builtin id)) (hn:x ≠ "__name__" := by decide) (hdb:(x == ("__debug__" : Str))=false:=by decide)
    (he:starEach [a] X.env=(false,eval a X.env) :: starEach [] X.env:=by rfl):B1 X r x p pos a:=fun _ ha=>gM hc hg hm hv ha hn hdb he
theorem HP {x:Str} {p:Pos} {a:Expr} {T:String} {r:List V→Hp→VK→Prop} (hc:fA X (.type T) r) (hg:Gl X x) (hm:X.mg x=none) (hv:bootBuiltins x=some (.type T)) (hn:x ≠ "__name__" := by decide) (hdb:(x == ("__debug__" : Str))=false:=by decide)
    (he:starEach [a] X.env=(false,eval a X.env) :: starEach [] X.env:=by rfl):B1 X r x p pos a:=fun _ ha=>lF hc hg hm hv ha hn hdb he
theorem tT {x:Str}{p:Pos}{a:Expr}{la:LF}{r:List V→Hp→VK→Prop}{g:List D→Hd→Res D}(hb:B1 X r x p pos a)(ha:MQ X a la)
    (hg:∀ ρ H σd hd σ l q vs Q,RS X.K ρ H σd hd σ → (SqL X.K H q vs∨H q=some (.tup vs))→RDs X.K ρ H l vs→bw X.K (rD X.K) ρ H σd σ (g l hd) Q→r [.ref q] H Q)
    (hs:starEach [a] X.env=(false,eval a X.env) :: starEach [] X.env:=by rfl):ME X (.Call (.Name x p) [a] [] pos) (fun σ h=>(la σ h).bind fun l h=>g l h):=by
  refine PE.imp (hb _ (bX ha df hs)) fun σ H Q ⟨ρ,σd,hd,rs,pp⟩=>⟨ρ,σd,hd,rs,(bw.bind (R:=rQ X.K) pp).imp fun v H1 ⟨ρ1,l,hd1,e1,rs1,⟨q,vs,hv,sq,rvs⟩,p1⟩ => ?_⟩
  subst hv
  exact hg ρ1 H1 σd hd1 σ l q vs Q rs1 sq rvs p1
theorem Kk {x:Str}{p:Pos}{a:Expr}{fa:EF}{r:List V→Hp→VK→Prop}{g:D→Hd→Res D}(hb:B1 X r x p pos a)(ha:ME X a fa)
    (hg:∀ ρ H σd hd σ d v Q,RS X.K ρ H σd hd σ → RD X.K ρ H d v→bw X.K (rD X.K) ρ H σd σ (g d hd) Q→r [v] H Q)
    (hs:starEach [a] X.env=(false,eval a X.env) :: starEach [] X.env:=by rfl):ME X (.Call (.Name x p) [a] [] pos) (fun σ h=>(fa σ h).bind fun x h=>g x h):=by
  refine PE.imp (hb _ (bX ha df hs)) fun σ H Q ⟨ρ,σd,hd,rs,pp⟩=>⟨ρ,σd,hd,rs,(bw.bind (R:=rD X.K) pp).imp fun v H1 ⟨ρ1,d,hd1,e1,rs1,rv,p1⟩ => ?_⟩
  exact hg ρ1 H1 σd hd1 σ d v Q rs1 rv p1
theorem cF {p:Pos} {a:Expr} {la:LF} (hg:Gl X "len") (hm:X.mg "len" = none) (ha:MQ X a la) (hs:starEach [a] X.env=(false,eval a X.env) :: starEach [] X.env:=by rfl):ME X (.Call (.Name "len" p) [a] [] pos) (cX la) :=
  tT (g:=fun l h=>.ok (.int l.length) h) (DP tL hg hm PySem.boot_len (he:=hs)) ha (fun ρ H σd hd σ l q vs Q rs sq rvs p=>⟨q,vs,rfl,sq.imp id SqT.of,by rw [← rvs.length];exact p.here rs (by simp only [rD,RD])⟩) hs
theorem ee {p:Pos} {a:Expr} {la:LF} (hg:Gl X "tuple") (hm:X.mg "tuple" = none) (ha:MQ X a la) (hs:starEach [a] X.env=(false,eval a X.env) :: starEach [] X.env:=by rfl):ME X (.Call (.Name "tuple" p) [a] [] pos) (cY la):=by
  refine tT (g:=fun l h=>.ok (.tup l) h) (HP qy hg hm (by decide +kernel) (he:=hs)) ha (fun ρ H σd hd σ l q vs Q rs sq rvs p=>⟨q,vs,rfl,?_⟩) hs
  rcases sq with sq|sq
  · refine .inl ⟨sq,fun q' hq => ?_⟩
    have sm:=cm (o:=HO.tup vs) hq
    exact p.at (Ext.same sm) (rs.same sm) (by simp only [rD,RD];exact⟨q',vs,rfl,bi,rvs.mono (Kp.same sm)⟩)
  · exact .inr ⟨SqT.of sq,p.here rs (by simp only [rD,RD];exact⟨q,vs,rfl,sq,rvs⟩)⟩
theorem A4 {p:Pos} {a:Expr} {fa:EF} (hg:Gl X "int") (hm:X.mg "int" = none) (ha:ME X a fa) (hs:starEach [a] X.env=(false,eval a X.env) :: starEach [] X.env:=by rfl):ME X (.Call (.Name "int" p) [a] [] pos) (wp fa):=by
  refine Kk (g:=fun x h=>match x with | .int i=>.ok (.int i) h | .bl b=>.ok (.int (b2i b)) h|_=>.bad) (HP BQ hg hm (by decide +kernel) (he:=hs)) ha (fun ρ H σd hd σ d v Q rs rv p => ?_) hs
  cases d<;>first|exact p.elim|skip
  · simp only [RD] at rv;subst rv
    exact .inr ⟨_,rfl,p.here rs (by simp only [rD,RD];rfl)⟩
  · simp only [RD] at rv;subst rv
    exact .inl ⟨_,rfl,p.here rs (by simp only [rD,RD])⟩
theorem ww (ns:List Int):PySem.preSum (fun i=>ns.getD i 0) ns.length=ns.sum:=by
  have key:∀ k,k≤ns.length→PySem.preSum (fun i=>ns.getD i 0) k=(ns.take k).sum:=by
    intro k
    induction k with
    | zero=>intro _;simp [PySem.preSum]
    | succ k ih =>
      intro hk
      rw [PySem.preSum,ih (by omega),List.take_add_one,List.getElem?_eq_getElem (by omega),List.sum_append]
      simp [List.getD,List.getElem?_eq_getElem (show k < ns.length by omega)]
  rw [key _ (Nat.le_refl _),List.take_length]
theorem A5 {its:List Value}{ns:List Int}(r:aS (ns.map V.int) its)(i:Nat)(v:Value)(h:its.toArray[i]? = some v):∃ t,v=.int (ns.getD i 0) t:=by
  have h':its[i]? = some v:=by simpa using h
  have hl:=r.length
  have hi:i < its.length:=(List.getElem?_eq_some_iff.mp h').1
  have hn:i < ns.length:=by rw [← hl] at hi;simpa using hi
  obtain⟨u,hu,ru⟩:=r.get (i:=i) (x:=.int ns[i]) (by simp [hn])
  rw [h'] at hu
  cases hu
  obtain⟨t,e⟩:=ru
  exact⟨t,by rw [e];simp [List.getD,hn]⟩
theorem BW (hc:X.calm=true):fA X (.builtin "sum") (fun xs H Q=>∃ (p:Addr) (ns:List Int),xs=[.ref p]∧(SqL X.K H p (ns.map V.int)∨SqT X.K H p (ns.map V.int))∧Q (.int ns.sum) H):=by
  intro pins s σ H xs us Q I r q
  obtain⟨p,ns,rfl,sq,q⟩:=q
  obtain⟨u,rfl,ru⟩:=aS.one r
  cases (show u=Value.ref p from ru)
  have fin:∀ {it:Obj} {h':Heap} {tk:Nat} {t':Tok} {n:Nat},n=ns.length→(∀ b o,b∉[s.heap.objs.size]→(s.heap.push it).get? b=some o→h'.get? b=some o)→EP X pins σ Q (.int (PySem.preSum (fun i=>ns.getD i 0) n) t') { s with heap:=h',toks:=tk }:=by
    intro it h' tk t' n hn hk
    subst hn
    refine⟨.int ns.sum,H,I.kept (t':=tk) fun b o e=>hk b o (by simp;exact Nat.ne_of_lt (Heap.lt_size e)) (Heap.get?_push_of_some _ e),⟨t',by rw [ww]⟩,q⟩
  have hA:(X.A.in1).handled=none:=I.ok.hd hc
  rcases sq with sq|sq
  · obtain⟨its,rv,pl,hz⟩:=I.list sq
    have il:s.heap.IsList p its.toArray:=pl.isList
    have hlt:p < s.heap.objs.size:=by obtain⟨o,ho,_⟩:=il;exact Heap.lt_size ho
    refine PySem.call_sum_walkG (PySem.wpAny_pyIter_list il ?_)
    refine⟨s.heap.objs.size,_,[s.heap.objs.size],_,_,_,fun i=>ns.getD i 0,rfl,PySem.Walks.list hA s.heap.objs.size p (Nat.ne_of_lt hlt) its.toArray,⟨⟨_,Heap.get?_push_size _ rfl,rfl,rfl⟩,?_⟩,?_,A5 rv,?_⟩
    · obtain⟨o,ho,r⟩:=il;exact⟨o,Heap.get?_push_of_some _ ho,r⟩
    · intro b hb
      rcases List.mem_cons.mp hb with rfl|hb
      · rw [Heap.size_push];exact Nat.lt_succ_self _
      · simp at hb;subst hb;rw [Heap.size_push];exact Nat.lt_succ_of_lt hlt
    · exact fun h' tk t' hk=>fin (by simpa using rv.length.symm) hk
  · obtain⟨its,rv,pl,hz⟩:=I.tuple sq
    have il:s.heap.IsTuple p its.toArray:=pl
    have hlt:p < s.heap.objs.size:=by obtain⟨o,ho,_⟩:=il;exact Heap.lt_size ho
    refine PySem.call_sum_walkG (PySem.wpAny_pyIter_tuple il ?_)
    refine⟨s.heap.objs.size,_,[s.heap.objs.size],_,_,_,fun i=>ns.getD i 0,rfl,PySem.Walks.tuple hA s.heap.objs.size p (Nat.ne_of_lt hlt) its.toArray,⟨⟨_,Heap.get?_push_size _ rfl,rfl,rfl⟩,?_⟩,?_,A5 rv,?_⟩
    · obtain⟨o,ho,r⟩:=il;exact⟨o,Heap.get?_push_of_some _ ho,r⟩
    · intro b hb
      rcases List.mem_cons.mp hb with rfl|hb
      · rw [Heap.size_push];exact Nat.lt_succ_self _
      · simp at hb;subst hb;rw [Heap.size_push];exact Nat.lt_succ_of_lt hlt
    · exact fun h' tk t' hk=>fin (by simpa using rv.length.symm) hk
theorem kK {K:PySem.W.Frag}{ρ:List Addr}{H:Hp}:∀ {l:List D} {vs:List V} {is:List Int},RDs K ρ H l vs→eA l=some is→vs=is.map V.int
  | [],_,is,r,e=>by simp only [eA] at e;cases e;simp only [RDs] at r;subst r;rfl
  | d :: l,_,is,r,e=>by
    simp only [RDs] at r
    obtain⟨v,vs,rfl,h1,h2⟩:=r
    cases d<;>simp only [eA] at e<;>try (cases e;done)
    rename_i i
    cases c:eA l with
    | none=>rw [c] at e;cases e
    | some js =>
      rw [c] at e
      cases e
      simp only [RD] at h1
      rw [h1,kK h2 c]
      rfl
theorem tU {p:Pos} {a:Expr} {la:LF} (hc:X.calm=true) (hg:Gl X "sum") (hm:X.mg "sum" = none) (ha:MQ X a la) (hs:starEach [a] X.env=(false,eval a X.env) :: starEach [] X.env:=by rfl):ME X (.Call (.Name "sum" p) [a] [] pos) (kI la):=by
  refine tT (g:=fun l h=>match eA l with|some is=>.ok (.int is.sum) h|none=>.bad) (DP (BW hc) hg hm (by decide +kernel) (he:=hs)) ha (fun ρ H σd hd σ l q vs Q rs sq rvs p => ?_) hs
  cases c:eA l with
  | none=>simp only [c] at p;exact p.elim
  | some is =>
    simp only [c] at p
    have e:=kK rvs c
    subst e
    exact⟨q,is,rfl,sq.imp id SqT.of,p.here rs (by simp only [rD,RD])⟩
end
end Fm
set_option Elab.async false
set_option linter.all false
set_option maxRecDepth 100000
namespace Fm
open PySem PySem.Spec L2
section
variable {K:PySem.W.Frag} {ρ:List Addr} {H:Hp}
mutual
theorem wx:∀ {d k:D} {v:V} {b:Bool},RD K ρ H d v→RD K ρ H k v→peq d k=some b→b=true
  | .int i,k,v,b,h1,h2,e=>by
    simp only [RD] at h1;subst h1
    cases k<;>simp only [RD] at h2<;>try (cases h2;done)
    all_goals first
      | (cases h2;simp only [peq] at e;simpa using e.symm)
      | (obtain⟨_,_,z,_⟩:=h2;cases z;done)
      | (obtain⟨_,_,z⟩:=h2;cases z;done)
      | (obtain⟨_,_,_,z,_⟩:=h2;cases z;done)
  | .bl i,k,v,b,h1,h2,e=>by
    simp only [RD] at h1;subst h1
    cases k<;>simp only [RD] at h2<;>try (cases h2;done)
    all_goals first
      | (cases h2;simp only [peq] at e;simpa using e.symm)
      | (obtain⟨_,_,z,_⟩:=h2;cases z;done)
      | (obtain⟨_,_,z⟩:=h2;cases z;done)
      | (obtain⟨_,_,_,z,_⟩:=h2;cases z;done)
  | .str x,k,v,b,h1,h2,e=>by
    simp only [RD] at h1;subst h1
    cases k<;>simp only [RD] at h2<;>try (cases h2;done)
    all_goals first
      | (simp only [peq] at e;simp only [toS,V.str.injEq,PySem.Str.mk.injEq] at h2;have h3:=congrArg Array.toList h2;simp at h3;subst h3;simpa using e.symm)
      | (obtain⟨_,_,z,_⟩:=h2;cases z;done)
      | (obtain⟨_,_,z⟩:=h2;cases z;done)
      | (obtain⟨_,_,_,z,_⟩:=h2;cases z;done)
  | .non,k,v,b,h1,h2,e=>by
    simp only [RD] at h1;subst h1
    cases k<;>simp only [RD] at h2<;>try (cases h2;done)
    all_goals first
      | (simp only [peq] at e;simpa using e.symm)
      | (obtain⟨_,_,z,_⟩:=h2;cases z;done)
      | (obtain⟨_,_,z⟩:=h2;cases z;done)
      | (obtain⟨_,_,_,z,_⟩:=h2;cases z;done)
  | .tup xs,k,v,b,h1,h2,e=>by
    simp only [RD] at h1
    obtain⟨p,vs,rfl,hp,r1⟩:=h1
    cases k<;>simp only [peq] at e<;>try (cases e;done)
    · simp only [RD] at h2;cases h2
    · simp only [RD] at h2;cases h2
    · rename_i ys
      simp only [RD] at h2
      obtain⟨p',vs',z,hp',r2⟩:=h2
      cases z
      rw [hp] at hp';cases hp'
      cases c:ii xs ys with
      | none=>rw [c] at e;cases e
      | some b' =>
        rw [c] at e
        simp only [Option.map_some,Option.some.injEq] at e
        have:=sw r1 r2 c
        subst this
        rw [← e,r1.length,r2.length]
        simp
  | .ref n,k,v,b,h1,h2,e=>by cases k<;>simp only [peq] at e<;>cases e
  | .lit l,k,v,b,h1,h2,e=>by cases k<;>simp only [peq] at e<;>cases e
  | .exn c l,k,v,b,h1,h2,e=>by simp only [peq] at e<;>cases e
theorem sw:∀ {xs ys:List D} {vs:List V} {b:Bool},RDs K ρ H xs vs→RDs K ρ H ys vs→ii xs ys=some b→b=true
  | [],_,_,_,_,_,e=>by simp only [ii] at e;cases e;rfl
  | x :: xs,[],_,_,_,_,e=>by simp only [ii] at e;cases e;rfl
  | x :: xs,y :: ys,_,b,h1,h2,e=>by
    simp only [RDs] at h1 h2
    obtain⟨v,r,rfl,a1,a2⟩:=h1
    obtain⟨v',r',z,b1,b2⟩:=h2
    cases z
    simp only [ii] at e
    cases c:peq x y with
    | none=>rw [c] at e;cases e
    | some p =>
      cases c2:ii xs ys with
      | none=>rw [c,c2] at e;cases e
      | some q =>
        rw [c,c2] at e
        simp only [Option.some.injEq] at e
        rw [← e,wx a1 b1 c,sw a2 b2 c2];rfl
end
end
section
variable {K:PySem.W.Frag} {ρ:List Addr} {H:Hp} {P:Program} {w:World} {s:Shared}
theorem io (hok:HOk P w H s.heap){p:Addr}{vs:List V}(h:H p=some (.tup vs)):∃ its:List Value,aS vs its∧s.heap.IsTuple p its.toArray:=by
  obtain⟨z,its,r,t⟩:=hok p _ h
  exact⟨its,r,t.1⟩
theorem A6 (hok:HOk P w H s.heap) {p:Addr} {vs:List V} (h:H p=some (.tup vs)):∃ (its:List Value) (o:Obj) (c:Nat),aS vs its∧s.heap.get? p=some o∧o.cls=.type "tuple" ∧ o.data=.seq its.toArray c∧o.dict=none:=by
  obtain⟨z,its,r,⟨o,h1,h2,c,h3⟩,o2,h4,h5⟩:=hok p _ h
  rw [h1] at h4
  cases h4
  exact⟨its,o,c,r,h1,h2,h3,h5⟩
mutual
theorem IU (hok:HOk P w H s.heap):∀ {d k:D} {v v':V} {u u':Value} {b:Bool} {A:Around},RD K ρ H d v→RD K ρ H k v'→bS v u→bS v' u'→peq d k=some b→A.units + dep d < cLine→SeqAt.EqAt A s u u' b
  | .int i,k,v,v',u,u',b,A,h1,h2,r1,r2,e,hu=>by
    simp only [RD] at h1;subst h1
    obtain⟨t,rfl⟩:=r1
    cases k<;>simp only [peq] at e<;>try (cases e;done)
    all_goals cases e
    · simp only [RD] at h2;subst h2;cases r2;exact SeqAt.EqAt.int_none i t
    · simp only [RD] at h2;subst h2;cases r2;exact SeqAt.EqAt.int_bool i t _
    · simp only [RD] at h2;subst h2;obtain⟨t',rfl⟩:=r2;exact SeqAt.EqAt.int_int i t _ t'
    · simp only [RD] at h2;obtain⟨p,vs,rfl,hp,_⟩:=h2;cases r2
      obtain⟨its,_,il⟩:=io hok hp
      exact SeqAt.EqAt.int_tuple i t il (Nat.lt_of_le_of_lt (Nat.le_add_right _ _) hu)
  | .bl i,k,v,v',u,u',b,A,h1,h2,r1,r2,e,hu=>by
    simp only [RD] at h1;subst h1
    cases r1
    cases k<;>simp only [peq] at e<;>try (cases e;done)
    all_goals cases e
    · simp only [RD] at h2;subst h2;cases r2;exact SeqAt.EqAt.bool_bool i _
    · simp only [RD] at h2;subst h2;obtain⟨t',rfl⟩:=r2;exact SeqAt.EqAt.bool_int i _ t'
  | .str x,k,v,v',u,u',b,A,h1,h2,r1,r2,e,hu=>by
    simp only [RD] at h1;subst h1
    obtain⟨t,rfl⟩:=r1
    cases k<;>simp only [peq] at e<;>try (cases e;done)
    all_goals cases e
    rename_i y
    simp only [RD] at h2;subst h2;obtain⟨t',rfl⟩:=r2
    have:decide (x=y)=(toS x == toS y):=by
      by_cases z:x=y
      · subst z;simp
      · have : ¬ toS x=toS y:=fun q=>z (by have:=congrArg (fun (s:Str)=>s.cps.toList) q;simpa [toS] using this)
        simp [z,this]
    rw [this]
    exact SeqAt.EqAt.str_str _ t _ t'
  | .non,k,v,v',u,u',b,A,h1,h2,r1,r2,e,hu=>by
    simp only [RD] at h1;subst h1
    cases r1
    cases k<;>simp only [peq] at e<;>try (cases e;done)
    all_goals cases e
    · simp only [RD] at h2;subst h2;cases r2;exact SeqAt.EqAt.same _
    · simp only [RD] at h2;subst h2;obtain⟨t',rfl⟩:=r2;exact SeqAt.EqAt.none_int _ t'
    · simp only [RD] at h2;obtain⟨p,vs,rfl,hp,_⟩:=h2;cases r2
      obtain⟨its,_,il⟩:=io hok hp
      exact SeqAt.EqAt.none_tuple il (Nat.lt_of_le_of_lt (Nat.le_add_right _ _) hu)
  | .tup xs,k,v,v',u,u',b,A,h1,h2,r1,r2,e,hu=>by
    have h1':=h1
    simp only [RD] at h1
    obtain⟨p,vs,rfl,hp,q1⟩:=h1
    cases r1
    obtain⟨its,rv,il⟩:=io hok hp
    have hu0:A.units < cLine:=Nat.lt_of_le_of_lt (Nat.le_add_right _ _) hu
    cases k<;>simp only [peq] at e<;>try (cases e;done)
    · cases e;simp only [RD] at h2;subst h2;cases r2;exact SeqAt.EqAt.tuple_none il hu0
    · cases e;simp only [RD] at h2;subst h2;obtain⟨t',rfl⟩:=r2;exact SeqAt.EqAt.tuple_int _ t' il hu0
    · rename_i ys
      have h2':=h2
      simp only [RD] at h2
      obtain⟨p',vs',rfl,hp',q2⟩:=h2
      cases r2
      by_cases hpp:p=p'
      · subst hpp
        have:b=true:=wx h1' h2' (by simp only [peq];exact e)
        subst this
        exact SeqAt.EqAt.same _
      · obtain⟨its',rv',il'⟩:=io hok hp'
        cases c:ii xs ys with
        | none=>rw [c] at e;cases e
        | some b' =>
          rw [c] at e
          simp only [Option.map_some,Option.some.injEq] at e
          obtain⟨f,hf,ha⟩:=oh hok (A:=A.in1) q1 q2 rv rv' c (by simp only [dep] at hu;show A.units + 1 + qz xs < cLine;omega)
          have:=SeqAt.RcAt.tuples (s:=s) (A:=A) (e:=f) il il' hu0 (fun j h1 h2=>by simpa using hf j (by simpa using h1) (by simpa using h2))
          rw [← e,← ha,q1.length,q2.length,rv.length,rv'.length]
          refine SeqAt.EqAt.of_refs hpp ?_
          rw [show (decide (its.length=its'.length))=(its.length == its'.length) from rfl]
          simpa using this
  | .ref n,k,v,v',u,u',b,A,h1,h2,r1,r2,e,hu=>by cases k<;>simp only [peq] at e<;>cases e
  | .lit l,k,v,v',u,u',b,A,h1,h2,r1,r2,e,hu=>by cases k<;>simp only [peq] at e<;>cases e
  | .exn c l,k,v,v',u,u',b,A,h1,h2,r1,r2,e,hu=>by simp only [peq] at e<;>cases e
theorem oh (hok:HOk P w H s.heap):∀ {xs ys:List D} {vs vs':List V} {us us':List Value} {b:Bool} {A:Around},RDs K ρ H xs vs→RDs K ρ H ys vs'→aS vs us→aS vs' us'→ii xs ys=some b→A.units + qz xs < cLine →
    ∃ f:Nat→Bool,(∀ j (h1:j < us.length) (h2:j < us'.length),SeqAt.EqAt A s us[j] us'[j] (f j))∧(List.range (min us.length us'.length)).all f=b
  | [],ys,vs,vs',us,us',b,A,h1,h2,r1,r2,e,hu=>by
    simp only [RDs] at h1;subst h1;cases r1
    simp only [ii] at e;cases e
    exact⟨fun _=>true,fun j h1=>by simp at h1,by simp⟩
  | x :: xs,[],vs,vs',us,us',b,A,h1,h2,r1,r2,e,hu=>by
    simp only [RDs] at h2;subst h2;cases r2
    simp only [ii] at e;cases e
    exact⟨fun _=>true,fun j h1 h2=>by simp at h2,by simp⟩
  | x :: xs,y :: ys,vs,vs',us,us',b,A,h1,h2,r1,r2,e,hu=>by
    simp only [RDs] at h1 h2
    obtain⟨v,r,rfl,a1,a2⟩:=h1
    obtain⟨v',r',rfl,b1,b2⟩:=h2
    cases r1 with
    | cons p1 p2 =>
      cases r2 with
      | cons s1 s2 =>
        simp only [ii] at e
        cases c:peq x y with
        | none=>rw [c] at e;cases e
        | some p =>
          cases c2:ii xs ys with
          | none=>rw [c,c2] at e;cases e
          | some q =>
            rw [c,c2] at e
            simp only [Option.some.injEq] at e
            simp only [qz] at hu
            have g1:=IU hok (A:=A) a1 b1 p1 s1 c (by omega)
            obtain⟨f,hf,ha⟩:=oh hok (A:=A) a2 b2 p2 s2 c2 (by omega)
            refine⟨fun j=>match j with|0=>p|j + 1=>f j,fun j h1 h2 => ?_,?_⟩
            · cases j with
              | zero=>exact g1
              | succ j=>exact hf j (by simpa using h1) (by simpa using h2)
            · rw [← e,← ha,List.length_cons,List.length_cons,Nat.succ_min_succ,List.range_succ_eq_map,List.all_cons,List.all_map]
              rfl
end
theorem IV (hok:HOk P w H s.heap){d k:D}{v v':V}{u u':Value}{b:Bool}{A:Around}(h1:RD K ρ H d v)(h2:RD K ρ H k v')(r1:bS v u)(r2:bS v' u')(e:peq d k=some b)(hu:A.units + dep d < cLine) :
    SeqAt.RcAt A s u u' b∧SeqAt.RcNeAt A s u u' (!b):=by
  have hu0:A.units < cLine:=Nat.lt_of_le_of_lt (Nat.le_add_right _ _) hu
  cases d<;>simp only [RD] at h1
  · subst h1;cases r1
    cases k<;>simp only [peq] at e<;>try (cases e;done)
    all_goals cases e
    · simp only [RD] at h2;subst h2;cases r2;exact⟨SeqAt.RcAt.none_none,SeqAt.RcNeAt.none_none⟩
    · simp only [RD] at h2;subst h2;obtain⟨t',rfl⟩:=r2;exact⟨SeqAt.RcAt.none_int _ t',SeqAt.RcNeAt.none_int _ t'⟩
    · simp only [RD] at h2;obtain⟨p,vs,rfl,hp,_⟩:=h2;cases r2
      obtain⟨its,_,il⟩:=io hok hp
      exact⟨SeqAt.RcAt.none_tuple il hu0,SeqAt.RcNeAt.none_tuple il hu0⟩
  · subst h1;cases r1
    cases k<;>simp only [peq] at e<;>try (cases e;done)
    all_goals cases e
    · simp only [RD] at h2;subst h2;cases r2;exact⟨SeqAt.RcAt.bool_bool _ _,SeqAt.RcNeAt.bool_bool _ _⟩
    · simp only [RD] at h2;subst h2;obtain⟨t',rfl⟩:=r2;exact⟨SeqAt.RcAt.bool_int _ _ t',SeqAt.RcNeAt.bool_int _ _ t'⟩
  · subst h1;obtain⟨t,rfl⟩:=r1
    cases k<;>simp only [peq] at e<;>try (cases e;done)
    all_goals cases e
    · simp only [RD] at h2;subst h2;cases r2;exact⟨SeqAt.RcAt.int_none _ t,SeqAt.RcNeAt.int_none _ t⟩
    · simp only [RD] at h2;subst h2;cases r2;exact⟨SeqAt.RcAt.int_bool _ t _,SeqAt.RcNeAt.int_bool _ t _⟩
    · simp only [RD] at h2;subst h2;obtain⟨t',rfl⟩:=r2;exact⟨SeqAt.RcAt.int_int _ t _ t',SeqAt.RcNeAt.int_int _ t _ t'⟩
    · simp only [RD] at h2;obtain⟨p,vs,rfl,hp,_⟩:=h2;cases r2
      obtain⟨its,_,il⟩:=io hok hp
      exact⟨SeqAt.RcAt.int_tuple _ t il hu0,SeqAt.RcNeAt.int_tuple _ t il hu0⟩
  · subst h1;obtain⟨t,rfl⟩:=r1
    cases k<;>simp only [peq] at e<;>try (cases e;done)
    all_goals cases e
    rename_i x y
    simp only [RD] at h2;subst h2;obtain⟨t',rfl⟩:=r2
    have:decide (x=y)=(toS x == toS y):=by
      by_cases z:x=y
      · subst z;simp
      · have : ¬ toS x=toS y:=fun q=>z (by have:=congrArg (fun (s:Str)=>s.cps.toList) q;simpa [toS] using this)
        simp [z,this]
    rw [this]
    exact⟨SeqAt.RcAt.str_str _ t _ t',SeqAt.RcNeAt.str_str _ t _ t'⟩
  · rename_i xs
    obtain⟨p,vs,rfl,hp,q1⟩:=h1
    cases r1
    obtain⟨its,rv,il⟩:=io hok hp
    cases k<;>simp only [peq] at e<;>try (cases e;done)
    · cases e;simp only [RD] at h2;subst h2;cases r2;exact⟨SeqAt.RcAt.tuple_none il hu0,SeqAt.RcNeAt.tuple_none il hu0⟩
    · cases e;simp only [RD] at h2;subst h2;obtain⟨t',rfl⟩:=r2;exact⟨SeqAt.RcAt.tuple_int _ t' il hu0,SeqAt.RcNeAt.tuple_int _ t' il hu0⟩
    · rename_i ys
      simp only [RD] at h2
      obtain⟨p',vs',rfl,hp',q2⟩:=h2
      cases r2
      obtain⟨its',rv',il'⟩:=io hok hp'
      cases c:ii xs ys with
      | none=>rw [c] at e;cases e
      | some b' =>
        rw [c] at e
        simp only [Option.map_some,Option.some.injEq] at e
        obtain⟨f,hf,ha⟩:=oh hok (A:=A.in1) q1 q2 rv rv' c (by simp only [dep] at hu;show A.units + 1 + qz xs < cLine;omega)
        have g1:=SeqAt.RcAt.tuples (s:=s) (A:=A) (e:=f) il il' hu0 (fun j h1 h2=>by simpa using hf j (by simpa using h1) (by simpa using h2))
        have g2:=SeqAt.RcNeAt.tuples (s:=s) (A:=A) (e:=f) il il' hu0 (fun j h1 h2=>by simpa using hf j (by simpa using h1) (by simpa using h2))
        rw [← e,← ha,q1.length,q2.length,rv.length,rv'.length,show (decide (its.length=its'.length))=(its.length == its'.length) from rfl]
        exact⟨by simpa using g1,by simpa using g2⟩
  · cases k<;>simp only [peq] at e<;>cases e
  · cases k<;>simp only [peq] at e<;>cases e
  · simp only [peq] at e<;>cases e
end
section
variable {X:Cx}
theorem ip {K:PySem.W.Frag}{ρ:List Addr}{H:Hp}{hd:Hd}{d:D}{v:V}{l:List D}(r:RH K ρ H hd)(h:RD K ρ H d v)(e:cI hd d=some l):∃ p vs,v=.ref p∧SqL K H p vs∧RDs K ρ H l vs:=by
  cases d<;>simp only [cI] at e<;>try (cases e;done)
  · rename_i n
    simp only [RD] at h
    obtain⟨a,e1,e2⟩:=h
    cases c:hd[n]? with
    | none=>rw [c] at e;cases e
    | some x =>
      rw [c] at e
      cases x with
      | dct l=>cases e
      | lst l' =>
        cases e
        obtain⟨vs,q1,q2⟩:=r.cel n _ a c e1
        exact⟨a,vs,e2,SqL.of q1,q2⟩
  · cases e
    simp only [RD] at h
    obtain⟨p,vs,e1,e2,e3⟩:=h
    exact⟨p,vs,e1,e2.sq,e3⟩
theorem DQ {pins:List (Addr × Obj)}{σ:St}{H:Hp}{s:Shared}{ρ:List Addr}{hd:Hd}{d k:D}{v v':V}{u u':Value}{b:Bool}(hu:X.A.units + 24 < cLine)(I:Inv X pins σ H s)(r:RH X.K ρ H hd)(h1:RD X.K ρ H d v)(h2:RD X.K ρ H k v')
    (r1:bS v u) (r2:bS v' u') (e:eqG hd d k=some b):SeqAt.RcAt X.A s u u' b∧SeqAt.RcNeAt X.A s u u' (!b):=by
  have hu0:X.A.units < cLine:=by omega
  simp only [eqG] at e
  cases c1:cI hd d with
  | none =>
    cases c2:cI hd k with
    | some l=>rw [c1,c2] at e;cases e
    | none =>
      rw [c1,c2] at e
      simp only at e
      split at e
      · rename_i hd20
        exact IV I.hok h1 h2 r1 r2 e (by omega)
      · cases e
  | some xs =>
    cases c2:cI hd k with
    | none=>rw [c1,c2] at e;cases e
    | some ys =>
      rw [c1,c2] at e
      simp only [eqL] at e
      obtain⟨p,vs,rfl,s1,q1⟩:=ip r h1 c1
      obtain⟨p',vs',rfl,s2,q2⟩:=ip r h2 c2
      cases r1;cases r2
      obtain⟨its,rv,pl,_⟩:=I.list s1
      obtain⟨its',rv',pl',_⟩:=I.list s2
      have il:s.heap.IsList p its.toArray:=pl.isList
      have il':s.heap.IsList p' its'.toArray:=pl'.isList
      have l1:xs.length=its.length:=q1.length.trans rv.length
      have l2:ys.length=its'.length:=q2.length.trans rv'.length
      split at e
      · rename_i hd20
        split at e
        · rename_i hl
          obtain⟨f,hf,ha⟩:=oh I.hok (A:=X.A.in1) q1 q2 rv rv' e (by show X.A.units + 1 + qz xs < cLine;omega)
          have hs:its.toArray.size=its'.toArray.size:=by simp;omega
          have g1:=SeqAt.RcAt.lists (s:=s) (A:=X.A) (e:=f) il il' hs hu0 (fun j h1 h2=>by simpa using hf j (by simpa using h1) (by simpa using h2))
          have g2:=SeqAt.RcNeAt.lists (s:=s) (A:=X.A) (e:=f) il il' hs hu0 (fun j h1 h2=>by simpa using hf j (by simpa using h1) (by simpa using h2))
          have hm:min its.length its'.length=its.length:=by omega
          rw [hm] at ha
          rw [← ha]
          exact⟨by simpa using g1,by simpa using g2⟩
        · rename_i hl
          cases e
          have hs:(its.toArray.size != its'.toArray.size)=true:=by simp;omega
          exact⟨SeqAt.RcAt.lists_lengths il il' hs hu0,SeqAt.RcNeAt.lists_lengths il il' hs hu0⟩
      · cases e
def Gj (K:PySem.W.Frag) (f:Bool→Bool):R2:=fun x y H Q=>∃ ρ hd d k b,RH K ρ H hd∧RD K ρ H d x∧RD K ρ H k y∧eqG hd d k=some b∧Q (.bl (f b)) H
theorem cr (hu:X.A.units + 24 < cLine):OpR X (compareOp .Eq) (Gj X.K id):=by
  intro pins s σ H x y v u Q I rx ry h
  obtain⟨ρ,hd,d,k,b,r,h1,h2,e,q⟩:=h
  exact (DQ hu I r h1 h2 rx ry e).1 _ _ _ _ ⟨.bl b,H,I,rfl,q⟩
theorem fm (hu:X.A.units + 24 < cLine):OpR X (compareOp .NotEq) (Gj X.K not):=by
  intro pins s σ H x y v u Q I rx ry h
  obtain⟨ρ,hd,d,k,b,r,h1,h2,e,q⟩:=h
  exact (DQ hu I r h1 h2 rx ry e).2 _ _ _ _ ⟨.bl (!b),H,I,rfl,q⟩
theorem dy {K:PySem.W.Frag}:Og K oEq (Gj K id):=by
  intro ρ H σd hd σ d k v w Q rs rv rw' p
  unfold oEq at p
  cases e:eqG hd d k with
  | none=>rw [e] at p;exact p.elim
  | some b=>rw [e] at p;exact⟨ρ,hd,d,k,b,rs.hp,rv,rw',e,p.here rs (by simp only [rD,RD];rfl)⟩
theorem iN {K:PySem.W.Frag}:Og K oNe (Gj K not):=by
  intro ρ H σd hd σ d k v w Q rs rv rw' p
  unfold oNe at p
  cases e:eqG hd d k with
  | none=>rw [e] at p;exact p.elim
  | some b=>rw [e] at p;exact⟨ρ,hd,d,k,b,rs.hp,rv,rw',e,p.here rs (by simp only [rD,RD])⟩
end
end Fm
set_option Elab.async false
set_option linter.all false
set_option maxRecDepth 100000
namespace Fm
open PySem PySem.Spec L2
section
variable {K:PySem.W.Frag} {ρ ρ':List Addr} {H H':Hp} {hd hd':Hd} {σd:Sd} {σ:St}
theorem bZ.outE {r:Res D}{k:D→Hd→Out}{En:wf}(p:bZ K ρ H (outE r σd k) En) :
    bw K (rD K) ρ H σd σ r (fun v H'=>∃ ρ' d hd',Ext ρ H ρ' H'∧RS K ρ' H' σd hd' σ ∧ RD K ρ' H' d v∧bZ K ρ' H' (k d hd') En):=by
  cases r with
  | ok d h'=>exact fun b H' ρ' ex rs q=>⟨ρ',d,h',ex,rs,q,bZ.ext ex p⟩
  | exc x h'=>exact p
  | bad=>exact p
theorem RSt.set (r:RSt K ρ H σd σ){d:D}{v:V}(i:Nat)(h:RD K ρ H d v):RSt K ρ H (σd.set i (some d)) (σ.set i (some v)):=by
  refine⟨by simp [r.len],fun j x e => ?_⟩
  by_cases hj:i=j
  · subst hj
    by_cases hl:i < σd.length
    · simp only [slot,List.getElem?_set_self hl] at e
      cases e
      exact⟨v,by rw [List.getElem?_set_self (by rw [← r.len];exact hl)],h⟩
    · simp only [slot] at e
      rw [List.getElem?_eq_none (by simp;omega)] at e
      cases e
  · simp only [slot,List.getElem?_set_ne hj] at e
    rw [List.getElem?_set_ne hj]
    exact r.at' j x (by simpa only [slot] using e)
def Kl (K:PySem.W.Frag) (g:GF):TG:=fun v σ H Q=>∃ ρ σd hd d σd',RS K ρ H σd hd σ ∧ RD K ρ H d v∧g d σd=some σd' ∧ ∀ σ',RS K ρ H σd' hd σ'→Q σ' H
def IW (σ:Sd) (l:List Nat) (xs:List D):Sd:=(l.zip xs).foldl (fun σ p => σ.set p.1 (some p.2)) σ
def IX (K:PySem.W.Frag) (l:List Nat):TGs:=fun vs σ H Q=>∃ ρ σd hd ds,RS K ρ H σd hd σ ∧ RDs K ρ H ds vs∧ds.length=l.length ∧ ∀ σ',RS K ρ H (IW σd l ds) hd σ'→Q σ' H
end
def MG (X:Cx) (tg:Expr) (g:GF):Prop:=PG X tg (Kl X.K g)
def MGs (X:Cx) (ts:List Expr) (l:List Nat):Prop:=PGs X ts (IX X.K l)
section
variable {X:Cx} {pos:Pos}
theorem PG.imp {tg:Expr}{t u:TG}(h:PG X tg t)(i:∀ v σ H Q,u v σ H Q→t v σ H Q):PG X tg u:=fun pins s σ H v w Q I r q=>h pins s σ H v w Q I r (i v σ H Q q)
theorem PGs.imp {tg:List Expr}{t u:TGs}(h:PGs X tg t)(i:∀ v σ H Q,u v σ H Q→t v σ H Q):PGs X tg u:=fun pins s σ H v w Q I r q=>h pins s σ H v w Q I r (i v σ H Q q)
theorem aH {i:Nat}{x:Str}(hN:X.N.Nodup)(hi:X.N[i]? = some x)(hx:Loc X.env.scope x)(hf:X.fn x=true∨X.env.scope.names.lookup x=some .local:=by first|exact .inl rfl|exact .inr rfl|assumption):MG X (.Name x pos) (gN i):=by
  refine PG.imp (FU hN hi hx hf) fun v σ H Q ⟨ρ,σd,hd,d,σd',rs,rv,e,q⟩ => ?_
  simp only [gN,Option.some.injEq] at e
  subst e
  exact q _ ⟨rs.hp,rs.st.set i rv⟩
theorem fD:MGs X [] []:=by
  refine PGs.imp FV fun vs σ H Q ⟨ρ,σd,hd,ds,rs,rv,e,q⟩ => ?_
  have:ds=[]:=by simpa using e
  subst this
  simp only [RDs] at rv
  exact⟨rv,q σ rs⟩
theorem bG {e:Expr}{es:List Expr}{i:Nat}{l:List Nat}(h1:MG X e (gN i))(h2:MGs X es l)
    (hs:(assignEach (e :: es) X.env).map (·.2)=assign e X.env :: (assignEach es X.env).map (·.2):=by rfl):MGs X (e :: es) (i :: l):=by
  refine PGs.imp (Dt h1 h2 hs) fun vs σ H Q ⟨ρ,σd,hd,ds,rs,rv,e,q⟩ => ?_
  cases ds with
  | nil=>simp at e
  | cons d ds =>
    simp only [RDs] at rv
    obtain⟨v,r,rfl,h1,h2⟩:=rv
    refine⟨v,r,rfl,ρ,σd,hd,d,_,rs,h1,rfl,fun σ' rs' => ?_⟩
    exact⟨ρ,_,hd,ds,rs',h2,by simpa using e,fun σ2 rs2=>q σ2 rs2⟩
theorem iq {es:List Expr}{k:Nat}{l:List Nat}(hc:X.calm=true)(h:MGs X es l)
    (hn:(assignEach es X.env).length=l.length:=by rfl) (hst:(assignEach es X.env).findIdx? (·.1)=none:=by rfl):MG X (.Tuple es k pos) (gT l):=by
  refine PG.imp (Ir hc h hn hst) fun v σ H Q ⟨ρ,σd,hd,d,σd',rs,rv,e,q⟩ => ?_
  cases d<;>simp only [gT] at e<;>try (cases e;done)
  rename_i xs
  split at e
  · rename_i hl
    cases e
    simp only [RD] at rv
    obtain⟨p,vs,rfl,hp,r⟩:=rv
    exact⟨p,vs,rfl,SqT.of hp,by rw [← r.length];exact hl,ρ,σd,hd,xs,rs,r,hl,q⟩
  · cases e
theorem aZ:MSs X [] b9:=PSs.imp FR fun En σ H ⟨ρ,σd,hd,rs,p⟩=>p σ H ρ Ext.refl rs
theorem ah {st:Stmt}{rest:List Stmt}{a b:SF}(h1:MS X st a)(h2:MSs X rest b):MSs X (st :: rest) (aE a b):=by
  refine PSs.imp (Dr h1 h2) fun En σ H ⟨ρ,σd,hd,rs,p⟩=>⟨ρ,σd,hd,rs,?_⟩
  unfold aE at p
  cases e:a σd hd with
  | nx σ1 h1=>rw [e] at p;exact fun σ' H' ρ' ex rs'=>⟨ρ',σ1,h1,rs',bZ.ext ex p⟩
  | rt d h1=>rw [e] at p;exact p
  | bk σ1 h1=>rw [e] at p;exact p
  | ct σ1 h1=>rw [e] at p;exact p
  | exc x σ1 h1=>rw [e] at p;exact p
  | bad=>rw [e] at p;exact p
theorem am {st:Stmt}{a:SF}(h:MS X st a):MSs X [st] a:=FS h
theorem DR {st:Stmt}:MS X st Gh:=PS.imp Ds fun En σ H ⟨ρ,σd,hd,rs,p⟩=>p.elim
theorem aG {e:Expr}{f:EF}(h:ME X e f):MS X (.Return (some e) pos) (bc f):=by
  refine PS.imp (Io h) fun En σ H ⟨ρ,σd,hd,rs,p⟩=>⟨ρ,σd,hd,rs,(bZ.outE p).imp fun v H1 ⟨ρ1,d,hd1,e1,rs1,rv,p1⟩ => ?_⟩
  exact p1 v H1 ρ1 Ext.refl rs1.hp rv
theorem dH {e:Expr}{f:EF}(h:ME X e f)(hs:swapsWith e none pos.line X.env=pure false:=by rfl):MS X (.Expr e pos) (gQ f):=by
  refine PS.imp (FT h hs) fun En σ H ⟨ρ,σd,hd,rs,p⟩=>⟨ρ,σd,hd,rs,(bZ.outE p).imp fun v H1 ⟨ρ1,d,hd1,e1,rs1,rv,p1⟩ => ?_⟩
  exact p1 σ H1 ρ1 Ext.refl rs1
theorem bR {c:Expr}{a b:List Stmt}{t:TF}{fa fb:SF}(hc:MT X c t)(ha:MSs X a fa)(hb:MSs X b fb):MS X (.If c a b pos) (sIf t fa fb):=by
  refine PS.imp (JW hc ha hb) fun En σ H ⟨ρ,σd,hd,rs,p⟩=>⟨ρ,σd,hd,rs,?_⟩
  unfold sIf at p
  cases e:t σd hd with
  | ok c h1 =>
    rw [e] at p
    intro b H' ρ' ex rs' q
    cases q
    cases c with
    | true=>simp only [if_true] at p ⊢;exact⟨ρ',σd,h1,rs',bZ.ext ex p⟩
    | false=>simp only [Bool.false_eq_true,if_false] at p ⊢;exact⟨ρ',σd,h1,rs',bZ.ext ex p⟩
  | exc x h1=>rw [e] at p;exact p
  | bad=>rw [e] at p;exact p
theorem aV {i:Nat}{x:Str}{e:Expr}{f:EF}{pos':Pos}(hN:X.N.Nodup)(hi:X.N[i]? = some x)(hx:Loc X.env.scope x)(he:ME X e f)(hs:swapsWith e (some (.Name x pos')) pos.line X.env=pure false:=by rfl)(hf:X.fn x=true∨X.env.scope.names.lookup x=some .local:=by first|exact .inl rfl|exact .inr rfl|assumption) :
    MS X (.Assign [.Name x pos'] e pos) (aT (gN i) f):=by
  refine PS.imp (Iv hN hi hx he hs hf) fun En σ H ⟨ρ,σd,hd,rs,p⟩=>⟨ρ,σd,hd,rs,(bZ.outE p).imp fun v H1 ⟨ρ1,d,hd1,e1,rs1,rv,p1⟩ => ?_⟩
  exact p1 _ H1 ρ1 Ext.refl ⟨rs1.hp,rs1.st.set i rv⟩
theorem DS {tg e:Expr}{f:EF}{g:GF}(he:ME X e f)(hg:MG X tg g)(hs:swapsWithSole [tg] e pos.line X.env=pure false:=by rfl)(hw:swappedStores [tg] e X.env=pure none:=by rfl)
    (h1:(assignEach [tg] X.env).map (·.2)=[assign tg X.env]:=by rfl):MS X (.Assign [tg] e pos) (aT g f):=by
  refine PS.imp (Du he hg hs hw h1) fun En σ H ⟨ρ,σd,hd,rs,p⟩=>⟨ρ,σd,hd,rs,(bZ.outE p).imp fun v H1 ⟨ρ1,d,hd1,e1,rs1,rv,p1⟩ => ?_⟩
  cases c:g d σd with
  | none=>rw [c] at p1;exact p1.elim
  | some σ1=>rw [c] at p1;exact⟨ρ1,σd,hd1,d,σ1,rs1,rv,c,fun σ' rs'=>p1 σ' H1 ρ1 Ext.refl rs'⟩
theorem IY:Fm.ixN=L2.ixN:=rfl
theorem IZ {o i e:Expr}{fo fi fe:EF}{p2:Pos}(he:ME X e fe)(ho:ME X o fo)(hi:ME X i fi)(hs:swapsWithSole [.Subscript o i p2] e pos.line X.env=pure false:=by rfl)(hw:swappedStores [.Subscript o i p2] e X.env=pure none:=by rfl)
    (h1:(assignEach [.Subscript o i p2] X.env).map (·.2)=[assign (.Subscript o i p2) X.env]:=by rfl) (ha:∀ v,assign (.Subscript o i p2) X.env v=(do
      let ov ← holding [v] (eval o X.env)
      let iv ← holding [v,ov] (eval i X.env)
      standAt p2
      holding [v,ov,iv] (setItem ov iv v)
      release [v,ov,iv] []):=by intro _;rfl):MS X (.Assign [.Subscript o i p2] e pos) (Kh fo fi fe):=by
  refine PS.imp (Du he (Iu ho hi DG ha) hs hw h1) fun En σ H ⟨ρ,σd,hd,rs,p⟩=>⟨ρ,σd,hd,rs,(bZ.outE p).imp fun v H1 ⟨ρ1,d,hd1,e1,rs1,rv,p1⟩ => ?_⟩
  refine⟨ρ1,σd,hd1,rs1,(bZ.outE p1).imp fun vo H2 ⟨ρ2,dO,hd2,e2,rs2,ro,p2⟩ => ?_⟩
  refine⟨ρ2,σd,hd2,rs2,(bZ.outE p2).imp fun vi H3 ⟨ρ3,di,hd3,e3,rs3,ri,p3⟩ => ?_⟩
  have rv3:=(rv.mono (rs1.hp.kp e2)).mono (rs2.hp.kp e3)
  have ro3:=ro.mono (rs2.hp.kp e3)
  cases dO with
  | ref n =>
    cases di with
    | int j =>
      simp only at p3
      cases c:hd3[n]? with
      | none=>rw [c] at p3;exact p3.elim
      | some cell =>
        rw [c] at p3
        cases cell with
        | dct l=>exact p3.elim
        | lst l =>
          simp only at p3
          cases c2:ixN l.length j with
          | none=>rw [c2] at p3;exact p3.elim
          | some k =>
            rw [c2] at p3
            simp only [RD] at ro3 ri
            obtain⟨a,ha,rfl⟩:=ro3
            obtain⟨vs,hv,rvs⟩:=rs3.hp.cel n _ a c ha
            refine⟨a,vs,j,k,rfl,ri,hv,by rw [← rvs.length,← IY];exact c2,?_⟩
            have hn:n < hd3.length:=(List.getElem?_eq_some_iff.mp c).1
            have rh:=rs3.hp.write ha hn (RDs.set rv3 k rvs)
            have ex:Ext ρ3 H3 ρ3 (upd H3 a (.lst (vs.set k v))):=Ext.write (List.mem_of_getElem? ha)
            exact p3 σ _ ρ3 ex (rs3.ext ex rh)
    | _=>exact p3.elim
  | _=>exact p3.elim
end
section
variable (K:PySem.W.Frag)
structure qA (ρ0:List Addr) (H0:Hp) (J:It) (l:List D) (g:Option Nat):Prop where
  go:∀ ρ H hd (i:Nat) d,Ext ρ0 H0 ρ H→RH K ρ H hd→dl g l hd→l[i]? = some d→J.go i H ∧ ∀ x H',J.yld i H x H'→lH H H'∧RD K ρ H' d x
  stop:∀ ρ H hd,Ext ρ0 H0 ρ H→RH K ρ H hd→dl g l hd→J.stop l.length H
  sz:l.length≤sizeLine
def Km (ρ:List Addr) (H:Hp) (σd:Sd) (σ:St) (r:Res (List D × Option Nat)) (R:It→Hp→Prop):Prop:=match r with
  | .ok p hd'=>∀ J H' ρ',Ext ρ H ρ' H'→RS K ρ' H' σd hd' σ → qA K ρ' H' J p.1 p.2→R J H'
  | _=>False
def Kn (f:IF):TI:=fun σ H R=>∃ ρ σd hd,RS K ρ H σd hd σ ∧ Km K ρ H σd σ (f σd hd) R
end
def MI (X:Cx) (tg e:Expr) (f:IF):Prop:=PI X tg e (Kn X.K f)
section
variable {X:Cx} {pos:Pos} {tg:Expr}
theorem PI.imp {e:Expr}{t u:TI}(h:PI X tg e t)(i:∀ σ H R,u σ H R→t σ H R):PI X tg e u:=fun pins s σ H R I q=>h pins s σ H R I (i σ H R q)
theorem fZ {iter:Expr}{body:List Stmt}{f:IF}{g:GF}{b:SF}(hp:PassesOwn (model X.prog X.w) X.A X.env X.xe)(hc:X.calm=true)(hi:MI X tg iter f)(hg:MG X tg g)(hb:MSs X body b)
    (hs:∀ x,foldedSetIterable iter X.env x=pure x:=by intro _;rfl):MS X (.For tg iter body [] pos) (iU f g b):=by
  refine PS.imp (Dy hp hc hi hg hb hs) fun En σ H ⟨ρ,σd,hd,rs,p⟩=>⟨ρ,σd,hd,rs,?_⟩
  unfold iU at p
  cases e:f σd hd with
  | exc x h'=>rw [e] at p;exact p
  | bad=>rw [e] at p;exact p
  | ok q hd1 =>
    rw [e] at p
    obtain⟨l,gd⟩:=q
    intro J H1 ρ1 ex1 rs1 wk
    simp only at p wk
    refine⟨fun i m σ' H'=>∃ ρ' σd' hd',Ext ρ1 H1 ρ' H'∧RS X.K ρ' H' σd' hd' σ'∧i≤l.length∧m=l.length - i∧bZ X.K ρ' H' (gl gd l g b (l.drop i) σd' hd') En,
      ⟨l.length,ρ1,σd,hd1,Ext.refl,rs1,Nat.zero_le _,by simp,by simpa using bZ.ext ex1 p⟩,?_⟩
    rintro i m σ' H' ⟨ρ',σd',hd',ex,rs',hil,rfl,pp⟩
    by_cases hlt:i < l.length
    · have hdi:l[i]? = some l[i]:=by simp [hlt]
      rw [List.drop_eq_getElem_cons hlt] at pp
      unfold gl at pp
      by_cases hh:dl gd l hd'
      · rw [if_pos hh] at pp
        obtain⟨go,yl⟩:=wk.go ρ' H' hd' i _ ex rs'.hp hh hdi
        refine .inr ⟨go,fun σ2 H2=>∃ ρ2 σd2 hd2,Ext ρ1 H1 ρ2 H2∧RS X.K ρ2 H2 σd2 hd2 σ2∧bZ X.K ρ2 H2 (gl gd l g b (l.drop (i + 1)) σd2 hd2) En,
          fun σ2 H2 ⟨ρ2,σd2,hd2,a1,a2,a3⟩=>⟨l.length - (i + 1),by omega,ρ2,σd2,hd2,a1,a2,hlt,rfl,a3⟩,fun x H2 y => ?_⟩
        obtain⟨sm,rx⟩:=yl x H2 y
        cases c:g l[i] σd' with
        | none=>rw [c] at pp;exact pp.elim
        | some σd2 =>
          rw [c] at pp
          simp only at pp
          refine⟨ρ',σd',hd',l[i],σd2,rs'.same sm,rx,c,fun σ2 rs2=>⟨ρ',σd2,hd',rs2,?_⟩⟩
          have e12:Ext ρ' H' ρ' H2:=Ext.same sm
          cases c2:b σd2 hd' with
          | nx σ3 h3=>rw [c2] at pp;exact fun σ4 H4 ρ4 ex4 rs4=>⟨ρ4,σ3,h3,ex.trans (e12.trans ex4),rs4,bZ.ext (e12.trans ex4) pp⟩
          | ct σ3 h3=>rw [c2] at pp;exact fun σ4 H4 ρ4 ex4 rs4=>⟨ρ4,σ3,h3,ex.trans (e12.trans ex4),rs4,bZ.ext (e12.trans ex4) pp⟩
          | bk σ3 h3=>rw [c2] at pp;exact fun σ4 H4 ρ4 ex4 rs4=>pp σ4 H4 ρ4 (e12.trans ex4) rs4
          | rt d h3=>rw [c2] at pp;exact fun v H4 ρ4 ex4 rs4 rv=>pp v H4 ρ4 (e12.trans ex4) rs4 rv
          | exc x σ3 h3=>rw [c2] at pp;exact pp
          | bad=>rw [c2] at pp;exact pp
      · rw [if_neg hh] at pp;exact pp.elim
    · have e0:i=l.length:=by omega
      subst e0
      rw [List.drop_length] at pp
      unfold gl at pp
      by_cases hh:dl gd l hd'
      · rw [if_pos hh] at pp
        exact .inl ⟨wk.stop ρ' H' hd' ex rs'.hp hh,pp σ' H' ρ' Ext.refl rs'⟩
      · rw [if_neg hh] at pp;exact pp.elim
theorem DT {c:Expr}{body:List Stmt}{t:TF}{b:SF}(hp:PassesOwn (model X.prog X.w) X.A X.env X.xe)(hc:MT X c t)(hb:MSs X body b):MS X (.While c body [] pos) (oK t b):=by
  refine PS.imp (Dv hp hc hb) fun En σ H ⟨ρ,σd,hd,rs,p⟩ => ?_
  unfold oK at p
  refine⟨fun m σ' H'=>∃ ρ' σd' hd',RS X.K ρ' H' σd' hd' σ'∧bZ X.K ρ' H' (dA t b m σd' hd') En,⟨jS t b σd hd,ρ,σd,hd,rs,p⟩,?_⟩
  rintro m σ' H' ⟨ρ',σd',hd',rs',pp⟩
  cases m with
  | zero=>exact pp.elim
  | succ m =>
    unfold dA at pp
    refine⟨ρ',σd',hd',rs',?_⟩
    cases e:t σd' hd' with
    | exc x h1=>rw [e] at pp;exact pp
    | bad=>rw [e] at pp;exact pp
    | ok c h1 =>
      rw [e] at pp
      intro b' H2 ρ2 ex2 rs2 q
      cases q
      cases c with
      | false=>simp only [Bool.false_eq_true,if_false] at pp ⊢;exact pp σ' H2 ρ2 ex2 rs2
      | true =>
        simp only [if_true] at pp ⊢
        refine⟨fun σ3 H3=>∃ ρ3 σd3 hd3,RS X.K ρ3 H3 σd3 hd3 σ3∧bZ X.K ρ3 H3 (dA t b m σd3 hd3) En,fun σ3 H3 q=>⟨m,Nat.lt_succ_self _,q⟩,ρ2,σd',h1,rs2,?_⟩
        cases c2:b σd' h1 with
        | nx σ3 h3=>rw [c2] at pp;exact fun σ4 H4 ρ4 ex4 rs4=>⟨ρ4,σ3,h3,rs4,bZ.ext (ex2.trans ex4) pp⟩
        | ct σ3 h3=>rw [c2] at pp;exact fun σ4 H4 ρ4 ex4 rs4=>⟨ρ4,σ3,h3,rs4,bZ.ext (ex2.trans ex4) pp⟩
        | bk σ3 h3=>rw [c2] at pp;exact fun σ4 H4 ρ4 ex4 rs4=>pp σ4 H4 ρ4 (ex2.trans ex4) rs4
        | rt d h3=>rw [c2] at pp;exact fun v H4 ρ4 ex4 rs4 rv=>pp v H4 ρ4 (ex2.trans ex4) rs4 rv
        | exc x σ3 h3=>rw [c2] at pp;exact pp
        | bad=>rw [c2] at pp;exact pp
theorem DU {K:PySem.W.Frag}{ρ:List Addr}{H:Hp}{hd:Hd}{q:Addr}{l:List D}{vs:List V}(r:RH K ρ H hd)(hq:H q=some (.tup vs))(rv:RDs K ρ H l vs)(hz:vs.length≤sizeLine):qA K ρ H (Itt K q) l none where
  go:=fun ρ' H' hd' i d ex rh _ hi=>by
    have k:=r.kp ex
    obtain⟨v,hv,rd⟩:=(rv.mono k).get hi
    have sq:SqT K H' q vs:=SqT.of (k.tup q vs hq)
    refine⟨⟨vs,v,sq,hv⟩,fun x H2 y => ?_⟩
    obtain⟨rfl,y⟩:=y
    have:=y vs sq
    rw [hv] at this
    cases this
    exact⟨lH.refl _,rd⟩
  stop:=fun ρ' H' hd' ex rh _=>⟨vs,SqT.of ((r.kp ex).tup q vs hq),by rw [rv.length];exact Nat.le_refl _⟩
  sz:=by rw [rv.length];exact hz
theorem DV {K:PySem.W.Frag}{ρ:List Addr}{H:Hp}{hd:Hd}{q:Addr}{l:List D}{vs:List V}(r:RH K ρ H hd)(hq:m8 K H q vs)(rv:RDs K ρ H l vs)(hz:vs.length≤sizeLine):qA K ρ H (Itl K q) l none where
  go:=fun ρ' H' hd' i d ex rh _ hi=>by
    have k:=r.kp ex
    obtain⟨v,hv,rd⟩:=(rv.mono k).get hi
    have sq:SqL K H' q vs:=(hq.mono k).sq
    refine⟨⟨vs,v,sq,hv⟩,fun x H2 y => ?_⟩
    obtain⟨rfl,y⟩:=y
    have:=y vs sq
    rw [hv] at this
    cases this
    exact⟨lH.refl _,rd⟩
  stop:=fun ρ' H' hd' ex rh _=>⟨vs,(hq.mono (r.kp ex)).sq,by rw [rv.length];exact Nat.le_refl _⟩
  sz:=by rw [rv.length];exact hz
theorem DW {K:PySem.W.Frag}{ρ:List Addr}{H:Hp}{n:Nat}{q:Addr}{l:List D}(hq : ρ[n]? = some q)(hz:l.length≤sizeLine):qA K ρ H (Itl K q) l (some n) where
  sz:=hz
  go:=fun ρ' H' hd' i d ex rh hl hi=>by
    obtain⟨vs,e,rv⟩:=rh.cel n _ q hl (ex.get hq)
    obtain⟨v,hv,rd⟩:=rv.get hi
    have sq:SqL K H' q vs:=SqL.of e
    refine⟨⟨vs,v,sq,hv⟩,fun x H2 y => ?_⟩
    obtain⟨rfl,y⟩:=y
    have:=y vs sq
    rw [hv] at this
    cases this
    exact⟨lH.refl _,rd⟩
  stop:=fun ρ' H' hd' ex rh hl=>by
    obtain⟨vs,e,rv⟩:=rh.cel n _ q hl (ex.get hq)
    exact⟨vs,SqL.of e,by rw [rv.length];exact Nat.le_refl _⟩
theorem Ja {l:Expr}{tl:TE}(hl:PE X l tl):PI X tg l (fun σ H R=>tl σ H fun x H1=>(∃ a xs,x=.ref a∧SqL X.K H1 a xs∧(xs.length≤sizeLine→R (Itl X.K a) H1)) ∨ ∃ a xs,x=.ref a∧SqT X.K H1 a xs∧(xs.length≤sizeLine→R (Itt X.K a) H1)):=by
  intro pins s σ H R I h
  refine thn (hl pins s σ H _ I h) fun v s1 ⟨x,H1,I1,r1,q1⟩ => ?_
  rcases q1 with ⟨a,xs,e,hq,q⟩|⟨a,xs,e,hq,q⟩
  · subst e
    cases r1
    obtain⟨its,rv,p,hz⟩:=I1.list hq
    refine wpAny_pyIter_list p.isList ?_
    refine⟨s1.heap.objs.size,[s1.heap.objs.size],_,_,H1,rfl,I1.kept (t':=s1.toks) fun b o e=>Heap.get?_push_of_some _ e,BM a _,⟨_,Heap.get?_push_size _ rfl,rfl,rfl⟩,fun b hb => ?_,q hz⟩
    have e:b=s1.heap.objs.size:=by simpa using hb
    subst e
    exact I1.fpOk (Nat.le_refl _) (I1.hok.fresh (Nat.le_refl _))
  · subst e
    cases r1
    obtain⟨its,rv,p,hz⟩:=I1.tuple hq
    refine wpAny_pyIter_tuple (show s1.heap.IsTuple a its.toArray from p) ?_
    refine⟨s1.heap.objs.size,[s1.heap.objs.size],_,_,H1,rfl,I1.kept (t':=s1.toks) fun b o e=>Heap.get?_push_of_some _ e,yv a _,⟨_,Heap.get?_push_size _ rfl,rfl,rfl⟩,fun b hb => ?_,q hz⟩
    have e:b=s1.heap.objs.size:=by simpa using hb
    subst e
    exact I1.fpOk (Nat.le_refl _) (I1.hok.fresh (Nat.le_refl _))
theorem gC {e:Expr}{f:EF}(h:ME X e f):MI X tg e (eW f):=by
  refine PI.imp (Ja h) fun σ H R ⟨ρ,σd,hd,rs,p⟩=>⟨ρ,σd,hd,rs,?_⟩
  unfold eW at p
  cases e:f σd hd with
  | exc x h1=>rw [e] at p;exact p
  | bad=>rw [e] at p;exact p
  | ok d hd1 =>
    rw [e] at p
    simp only [aI] at p
    intro v H1 ρ1 ex1 rs1 rv
    cases d<;>try exact p.elim
    · rename_i l
      simp only [rD,RD] at rv
      obtain⟨q,vs,rfl,hq,rvs⟩:=rv
      exact .inr ⟨q,vs,rfl,SqT.of hq,fun hz=>p _ H1 ρ1 ex1 rs1 (DU rs1.hp hq rvs hz)⟩
    · rename_i n
      simp only [rD,RD] at rv
      obtain⟨a,ha,rfl⟩:=rv
      cases c:hd1[n]? with
      | none=>simp only [c] at p;exact p.elim
      | some cell =>
        cases cell with
        | dct l=>simp only [c] at p;exact p.elim
        | lst l =>
          simp only [c] at p
          obtain⟨vs,hv,rvs⟩:=rs1.hp.cel n _ a c ha
          exact .inl ⟨a,vs,rfl,SqL.of hv,fun hz=>p _ H1 ρ1 ex1 rs1 (DW ha (by rw [rvs.length];exact hz))⟩
    · rename_i l
      simp only [rD,RD] at rv
      obtain⟨q,vs,rfl,hq,rvs⟩:=rv
      exact .inl ⟨q,vs,rfl,hq.sq,fun hz=>p _ H1 ρ1 ex1 rs1 (DV rs1.hp hq rvs hz)⟩
theorem yE {K:PySem.W.Frag}{ρ:List Addr}{H:Hp}(lo:Int)(n:Nat)(hz:n≤2000000):qA K ρ H (Itr lo n) ((List.range n).map fun k:Nat=>.int (lo + k)) none where
  go:=fun ρ' H' hd' i d ex rh _ hi=>by
    have hin:i < n:=by
      have:=(List.getElem?_eq_some_iff.mp hi).1
      simpa using this
    refine⟨hin,fun x H2 y => ?_⟩
    obtain⟨rfl,rfl⟩:=y
    have e:d=.int (lo + i):=by simpa [hin] using hi.symm
    subst e
    exact⟨lH.refl _,by simp only [RD]⟩
  stop:=fun ρ' H' hd' ex rh _=>by
    show n≤_
    simp
  sz:=by
    have:(2000000:Nat)≤sizeLine:=by rw [sizeLine_eq];decide
    simp;omega
theorem bH {a:Expr} {f:EF} {p:Pos} (hg:Gl X "range") (hm:X.mg "range" = none) (ha:ME X a f) (hs:starEach [a] X.env=[(false,eval a X.env)]:=by rfl):MI X tg (.Call (.Name "range" p) [a] [] pos) (bm f):=by
  refine PI.imp (BN hg hm (bX ha df hs) hs) fun σ H R ⟨ρ,σd,hd,rs,pp⟩=>⟨ρ,σd,hd,rs,?_⟩
  unfold bm at pp
  cases e:f σd hd with
  | exc x h1=>rw [e] at pp;exact pp
  | bad=>rw [e] at pp;exact pp
  | ok d hd1 =>
    rw [e] at pp
    simp only [aI] at pp
    intro v H1 ρ1 ex1 rs1 rv
    cases d<;>try exact pp.elim
    rename_i n
    simp only at pp
    simp only [rD,RD] at rv
    subst rv
    split at pp
    · rename_i hb
      refine⟨n,rfl,by omega,by omega,pp _ H1 ρ1 ex1 rs1 ?_⟩
      have:=yE (K:=X.K) (ρ := ρ1) (H:=H1) 0 n.toNat (by omega)
      simpa using this
    · exact pp.elim
end
end Fm
set_option linter.all false
namespace Fm
noncomputable section
open Classical
def eX (G:Hd→Prop) (tg:GF) (cs:List TF) (e:EF):List D→Sd→Hd→Res (List D)
  | [],_,h=>if G h then .ok [] h else .bad
  | x :: xs,σ,h=>if G h then match tg x σ with
      | some σ=>(gR cs σ h).bind fun b h=>if b then (e σ h).bind fun d h=>(eX G tg cs e xs σ h).bind fun ds h=>.ok (d :: ds) h
        else eX G tg cs e xs σ h
      | none=>.bad
    else .bad
end
theorem tV {g:Option Nat}{all:List D}{tg:GF}{cs:List TF}{e:EF}:∀ (xs:List D) (σ:Sd) (h:Hd),bQ g all tg cs e xs σ h=eX (dl g all) tg cs e xs σ h
  | [],_,h=>by unfold bQ eX;rfl
  | x :: xs,σ,h=>by
    unfold bQ eX
    by_cases hh:dl g all h
    · rw [if_pos hh,if_pos hh]
      cases tg x σ with
      | none=>rfl
      | some σ'=>simp only [tV xs]
    · rw [if_neg hh,if_neg hh]
end Fm
set_option Elab.async false
set_option linter.all false
set_option maxRecDepth 100000
namespace Fm
open PySem PySem.Spec L2
section
variable {prog:Program} {w:World} {A:Around} {R:Result→Shared→Prop} {s:Shared}
theorem tW {elt target iter:Expr}{ifs:List Expr}{scope:Scope}{pos:Pos}{it acc:Value}{env:Env}{E:Value→Shared→Prop}(hE:∀ e s,¬ E e s)(I:Nat→Shared→Prop)
    (turn:∀ n s,I n s→wpAny (model prog w) A (pyNext it) (fun r s₁ => match r with
      | none=>R (.ok .next) s₁
      | some v=>wpAny (model prog w) A (letOwnedTupleGo target it v) (fun _ s₁ => wpAny (model prog w) A (assign target env v) (fun _ s₂ =>
          wpAny (model prog w) A (forIn ifs true fun c r=>if r=true then do let ok ← isTrue c env (eval c env);pure (ForInStep.yield ok) else pure (ForInStep.yield r)) (fun ok s₃ =>
            if ok=true then wpAny (model prog w) A (eval elt env) (fun x s₄ =>
              wpAny (model prog w) A (call (.builtin "list.append") [acc,x]) (fun _ s₅ => ∃ m,m < n∧I m s₅) E s₄) E s₃
            else ∃ m,m < n∧I m s₃) E s₂) E s₁) E s₁) E s)
    (n:Nat) (h:I n s) :
    codeAny (model prog w) A (.compLoop (.ListComp elt [⟨target,iter,ifs,0⟩] scope pos) 0 it acc env) R s:=by
  refine codeAny_loop rfl I (fun n s hI => ?_) n h
  show wpAny _ A ((compTurn (.ListComp elt [⟨target,iter,ifs,0⟩] scope pos) 0 it acc env).onRaise (fun x=>do noteFrame x env;theTreesLotGoes x)) _ _ s
  refine wpAny_noted ?_
  rw [compTurn_list]
  have no:∀ {α : Type} {t:Sem α} {Q Q' : α → Shared→Prop} {E':Value→Shared→Prop} {s:Shared},wpAny (model prog w) A t Q E s→(∀ a s,Q a s→Q' a s)→wpAny (model prog w) A t Q' E' s:=fun h hq=>wpAny_mono h hq fun e s z=>(hE e s z).elim
  refine wpAny_bind (wpAny_standAt (wpAny_bind (no (turn n s hI) fun r s₁ h₁ => ?_)))
  cases r with
  | none=>exact wpAny_pure h₁
  | some v =>
    refine wpAny_bind (no h₁ fun _ s₁ h₁ => ?_)
    refine wpAny_bind (no h₁ fun _ s₂ h₂ => wpAny_bind (no h₂ fun ok s₃ h₃ => ?_))
    cases ok with
    | false=>exact wpAny_pure ⟨rfl,h₃⟩
    | true =>
      exact wpAny_bind (wpAny_bind (no h₃ fun x s₄ h₄ => wpAny_bind (no h₄ fun _ s₅ h₅ => wpAny_pure (wpAny_pure ⟨rfl,h₅⟩))))
end
theorem kh {env:Env}:∀ (l:List (Str × NameKind)) (cs:List (Str × Addr)),(∀ y∈l,y.2=.free → ∃ c,env.cells.lookup y.1=some c) →
    ∃ cl,(forIn l cs fun (x:Str × NameKind) (r:List (Str × Addr))=>if (x.2 == .free)=true then do let a ← cellOf env x.1;pure (ForInStep.yield ((x.1,a) :: r)) else pure (ForInStep.yield r))=(pure cl:Sem _) ∧
      (∀ x c,cl.lookup x=some c→cs.lookup x=some c∨env.cells.lookup x=some c)∧(∀ y∈l,y.2=.free → ∃ c,cl.lookup y.1=some c) ∧ ∀ x c,cs.lookup x=some c → ∃ c',cl.lookup x=some c'
  | [],cs,_=>⟨cs,by simp,fun x c h=>.inl h,fun y hy=>by simp at hy,fun x c h=>⟨c,h⟩⟩
  | (n,k) :: l,cs,hf=>by
    by_cases hk:k=.free
    · subst hk
      obtain⟨c,hc⟩:=hf (n,.free) (by simp) rfl
      obtain⟨cl,h1,h2,h3,h4⟩:=kh l ((n,c) :: cs) fun y hy=>hf y (by simp [hy])
      refine⟨cl,?_,fun x d h => ?_,fun y hy hyf => ?_,fun x d h => ?_⟩
      · rw [List.forIn_cons]
        simp only [beq_self_eq_true,if_true,cellOf,hc]
        exact h1
      · rcases h2 x d h with q|q
        · rw [List.lookup_cons] at q
          cases e:x == n with
          | true =>
            rw [e] at q
            have:x=n:=by simpa using e
            subst this
            cases q
            exact .inr hc
          | false=>rw [e] at q;exact .inl q
        · exact .inr q
      · rcases List.mem_cons.mp hy with e|e
        · subst e
          exact h4 n c (by simp [List.lookup_cons])
        · exact h3 y e hyf
      · by_cases e:x=n
        · subst e
          exact h4 x c (by simp [List.lookup_cons])
        · exact h4 x d (by rw [List.lookup_cons,beq_eq_false_iff_ne.mpr e];exact h)
    · obtain⟨cl,h1,h2,h3,h4⟩:=kh l cs fun y hy=>hf y (by simp [hy])
      refine⟨cl,?_,h2,fun y hy hyf => ?_,h4⟩
      · rw [List.forIn_cons]
        have:(k == NameKind.free)=false:=by simpa using hk
        simp only [this,Bool.false_eq_true,if_false]
        exact h1
      · rcases List.mem_cons.mp hy with e|e
        · subst e;exact absurd hyf hk
        · exact h3 y e hyf
theorem ki {scope:Scope}{env:Env}(hf:∀ y∈scope.names,y.2=.free → ∃ c,env.cells.lookup y.1=some c) :
    ∃ cl,closureFor scope env=pure cl∧(∀ x c,cl.lookup x=some c→env.cells.lookup x=some c) ∧ ∀ y∈scope.names,y.2=.free → ∃ c,cl.lookup y.1=some c:=by
  obtain⟨cl,h1,h2,h3,_⟩:=kh scope.names [] hf
  refine⟨cl,?_,fun x c h=>(h2 x c h).elim (fun z=>by simp at z) id,h3⟩
  unfold closureFor
  have e:(forIn scope.names ([] : List (Str × Addr)) fun (x:Str × NameKind) (r:List (Str × Addr))=>if (x.2 == .free)=true then do let a ← cellOf env x.1;pure (ForInStep.yield ((x.1,a) :: r)) else pure (ForInStep.yield r))=(pure cl:Sem _):=h1
  exact (congrArg (fun t:Sem (List (Str × Addr))=>t >>= fun r=>pure r) e).trans rfl
def cxC (X:Cx) (N:List Str) (scope:Scope) (cl:List (Str × Addr)) (C:Addr) (s:Shared) (H:Hp) (ex:List Addr):Cx where
  prog:=X.prog
  w:=X.w
  K:=X.K
  mg:=X.mg
  base:=X.base
  A:=X.A
  N:=N
  s₀ := s
  H₀ := H
  env:=compEnvC scope cl C X.env
  outer:=X.stack
  stack:=X.stack
  ex:=ex
  fn:=fun _=>false
  calm:=X.calm
  pn:=[]
  xe:=fun _ _=>False
def MTs (X:Cx) (ifs:List Expr) (cs:List TF):Prop :=
  ∀ (pins:List (Addr × Obj)) (s:Shared) (σ:St) (H:Hp) (Q:Bool→Hp→Prop),Inv X pins σ H s→jT X.K rB (gR cs) σ H Q →
    wpAny (model X.prog X.w) X.A (forIn ifs true fun c r=>if r=true then do let ok ← isTrue c X.env (eval c X.env);pure (ForInStep.yield ok) else pure (ForInStep.yield r)) (TP X pins σ Q) X.xe s
theorem cH {X:Cx}:MTs X [] []:=fun pins s σ H Q I ⟨ρ,σd,hd,rs,p⟩=>wpAny_tests_nil ⟨H,I,p.here rs rfl⟩
theorem oj {X:Cx}{c:Expr}{t:TF}(h:MT X c t):MTs X [c] [t]:=fun pins s σ H Q I ⟨ρ,σd,hd,rs,p⟩=>wpAny_tests_one (h pins s σ H Q I ⟨ρ,σd,hd,rs,by
  have e:gR [t] σd hd=t σd hd:=by
    simp only [gR]
    cases c:t σd hd with
    | ok b h'=>cases b<;>simp
    | exc x h'=>rfl
    | bad=>rfl
  rw [e] at p
  exact p⟩)
theorem i8 {env:Env}{x:Str}:∀ {names:List (Str × NameKind)} {k:NameKind},(names.map fun (n,k)=>if (k == NameKind.free && env.scope.kind == .function && env.kindOf n == some .cell) then (n,NameKind.cell) else (n,k)).lookup x=some k →
    ∃ k0,names.lookup x=some k0∧(k=k0∨(k0=.free∧k=.cell))
  | [],_,h=>by simp at h
  | (n,k') :: r,k,h=>by
    have ih := @i8 env x r k
    have h':List.lookup x ((if (k' == NameKind.free && env.scope.kind == .function && env.kindOf n == some .cell)=true then (n,NameKind.cell) else (n,k')) :: _)=some k:=h
    cases hx:x == n with
    | true =>
      refine⟨k',by simp [List.lookup_cons,hx],?_⟩
      by_cases hc:(k' == NameKind.free && env.scope.kind == .function && env.kindOf n == some .cell)=true
      · rw [if_pos hc] at h'
        simp only [List.lookup_cons,hx,Option.some.injEq] at h'
        simp only [Bool.and_eq_true,beq_iff_eq] at hc
        exact .inr ⟨hc.1.1,h'.symm⟩
      · rw [if_neg hc] at h'
        simp only [List.lookup_cons,hx,Option.some.injEq] at h'
        exact .inl h'.symm
    | false =>
      have:List.lookup x ((n,k') :: r)=List.lookup x r:=by simp [List.lookup_cons,hx]
      rw [this]
      refine ih ?_
      by_cases hc:(k' == NameKind.free && env.scope.kind == .function && env.kindOf n == some .cell)=true
      · rw [if_pos hc] at h';simpa only [List.lookup_cons,hx] using h'
      · rw [if_neg hc] at h';simpa only [List.lookup_cons,hx] using h'
theorem f6 {x:Str}{k:NameKind}:∀ {l:List (Str × NameKind)},l.lookup x=some k→(x,k)∈l
  | [],h=>by simp at h
  | (n,k') :: r,h=>by
    rw [List.lookup_cons] at h
    cases e:x == n with
    | true =>
      rw [e] at h
      have:x=n:=by simpa using e
      subst this
      cases h
      exact List.mem_cons_self
    | false=>rw [e] at h;exact List.mem_cons_of_mem _ (f6 h)
structure bI (X:Cx) (scope:Scope) (own capn:List Str) (caps:List Nat):Prop where
  kind:scope.kind=.function
  cell:∀ y∈scope.names,y.2 ≠ .cell
  names:∀ y∈scope.names,y.2=.local→scope.names.lookup y.1=some .local
  free:∀ y∈scope.names,y.2=.free→X.env.kindOf y.1=some .cell∨X.env.kindOf y.1=some .free
  cap:∀ (j:Nat) x,capn[j]? = some x → ∃ i,caps[j]? = some i∧X.N[i]? = some x∧scope.names.lookup x=some .free
  len:capn.length=caps.length
section
variable {X:Cx} {pins:List (Addr × Obj)} {σ:St} {H1:Hp} {s2:Shared} {scope:Scope} {own capn:List Str} {caps:List Nat} {cl:List (Str × Addr)} {C:Addr} {ex:List Addr}
def stC (own:List Str) (caps:List Nat) (σ:St):St:=List.replicate own.length none++caps.map fun i=>(σ[i]?).join
theorem Jb (I:Inv X pins σ H1 s2)(S:bI X scope own capn caps)(hC:s2.heap.objs.size≤C)(hcl1:∀ x c,cl.lookup x=some c→X.env.cells.lookup x=some c)(hcl2:∀ y∈scope.names,y.2=.free → ∃ c,cl.lookup y.1=some c)
    (hf:∀ b∈ex,oA X pins H1 b) (hlt:∀ b∈ex,b < s2.heap.objs.size):(cxC X (own++capn) scope cl C s2 H1 ex).Ok where
  mod:=I.ok.mod
  kind:=S.kind
  glob:=I.ok.glob
  blt:=I.ok.blt
  above:=hC
  inj:=fun x y c h1 h2=>I.ok.inj x y c (hcl1 x c h1) (hcl1 y c h2)
  has:=fun x hx=>by
    have key:∀ k,(relabel scope X.env).names.lookup x=some k→k=.cell∨k=.free → ∃ c,cl.lookup x=some c:=fun k h hk=>by
      obtain⟨k0,h0,q⟩:=i8 h
      have hm:=f6 h0
      have:k0=.free:=by
        rcases q with q|q
        · subst q
          rcases hk with e|e
          · exact absurd e (S.cell _ hm)
          · exact e
        · exact q.1
      exact hcl2 _ hm this
    rcases hx with h|h
    · exact key _ h (.inl rfl)
    · exact key _ h (.inr rfl)
  cab:=fun x c h=>by cases h
  hd:=I.ok.hd
  frames:=I.ok.frames
  stk:=.inl rfl
  exf:=fun b hb=>by
    obtain⟨f0,f1,f2,f3,f4,f5⟩:=hf b hb
    exact⟨fun z=>absurd (Nat.lt_of_lt_of_le (hlt b hb) hC) (by rw [z];exact Nat.lt_irrefl _),fun x c e=>f4 x c (hcl1 x c e)⟩
  bs:=I.bs
  bsz:=Nat.le_trans I.ok.bsz I.sz
  noex:=fun b o e hb=>by
    obtain⟨f0,f1,f2,f3,f4,f5⟩:=hf b hb
    rcases f3 with z|z
    · exact I.ok.noex b o e z
    · exact absurd (Nat.lt_of_lt_of_le (Heap.lt_size (I.ok.bs b o e).1) z) (Nat.lt_irrefl _)
  exfs:=fun b hb hs=>by
    obtain⟨f0,f1,f2,f3,f4,f5⟩:=hf b hb
    rcases List.mem_cons.mp (I.stkSub b hs) with z|z
    · exact f1 z
    · exact f2 z
  funs:=I.stack
  frf:=I.stkFree
theorem kL {env:Env}{x:Str}:∀ {names:List (Str × NameKind)},names.lookup x=some .free →
    (names.map fun (n,k)=>if (k == NameKind.free && env.scope.kind == .function && env.kindOf n == some .cell) then (n,NameKind.cell) else (n,k)).lookup x=some .cell ∨
    (names.map fun (n,k)=>if (k == NameKind.free && env.scope.kind == .function && env.kindOf n == some .cell) then (n,NameKind.cell) else (n,k)).lookup x=some .free
  | [],h=>by simp at h
  | (n,k') :: r,h=>by
    have ih := @kL env x r
    show List.lookup x ((if (k' == NameKind.free && env.scope.kind == .function && env.kindOf n == some .cell)=true then (n,NameKind.cell) else (n,k')) :: _)=_∨List.lookup x ((if (k' == NameKind.free && env.scope.kind == .function && env.kindOf n == some .cell)=true then (n,NameKind.cell) else (n,k')) :: _)=_
    cases hx:x == n with
    | true =>
      simp only [List.lookup_cons,hx,Option.some.injEq] at h
      subst h
      by_cases hc:(NameKind.free == NameKind.free && env.scope.kind == .function && env.kindOf n == some .cell)=true
      · rw [if_pos hc];exact .inl (by simp only [List.lookup_cons,hx])
      · rw [if_neg hc];exact .inr (by simp only [List.lookup_cons,hx])
    | false =>
      simp only [List.lookup_cons,hx] at h
      by_cases hc:(k' == NameKind.free && env.scope.kind == .function && env.kindOf n == some .cell)=true
      · rw [if_pos hc];simp only [List.lookup_cons,hx];exact ih h
      · rw [if_neg hc];simp only [List.lookup_cons,hx];exact ih h
theorem Gk {i:Nat}{v:V}(h:(stC own caps σ)[i]? = some (some v)):∃ j k,i=own.length + j∧caps[j]? = some k ∧ σ[k]? = some (some v):=by
  unfold stC at h
  by_cases hi:i < own.length
  · rw [List.getElem?_append_left (by simpa using hi)] at h
    simp [hi] at h
  · rw [List.getElem?_append_right (by simpa using Nat.le_of_not_lt hi)] at h
    simp only [List.length_replicate,List.getElem?_map] at h
    cases c:caps[i - own.length]? with
    | none=>rw [c] at h;cases h
    | some k =>
      rw [c] at h
      simp only [Option.map_some,Option.some.injEq] at h
      refine⟨i - own.length,k,by omega,c,?_⟩
      cases e : σ[k]? with
      | none=>rw [e] at h;cases h
      | some o=>rw [e] at h;simp only [Option.join_some] at h;rw [h]
theorem BX (I:Inv X pins σ H1 s2)(S:bI X scope own capn caps)(hC:s2.heap.objs.size < C)(hcl1:∀ x c,cl.lookup x=some c→X.env.cells.lookup x=some c)(hcl2:∀ y∈scope.names,y.2=.free → ∃ c,cl.lookup y.1=some c)
    (hf:∀ b∈ex,oA X pins H1 b) (hlt:∀ b∈ex,b < s2.heap.objs.size) {h1:Heap} {m:Str→Option Value} {tk:Nat} (hn:h1.Ns C m) (hk:∀ b o,s2.heap.get? b=some o→h1.get? b=some o)
    (hD:h1.get? s2.heap.objs.size=some { cls:=.type "list",data:=.seq #[] }) :
    Inv (cxC X (own++capn) scope cl C s2 H1 ex) [] (stC own caps σ) (upd H1 s2.heap.objs.size (.lst [])) { s2 with heap:=h1,toks:=tk } where
  ok:=Jb I S (Nat.le_of_lt hC) hcl1 hcl2 hf hlt
  os:=rfl
  bare:=I.bare
  base:=Un.laid hk (Nat.le_refl _) (I.hok.fresh (Nat.le_refl _))
  loc:=by
    refine⟨m,hn,fun i x v e1 e2 e3 => ?_⟩
    obtain⟨j,k,rfl,hj,hk'⟩:=Gk e2
    have e1':capn[j]? = some x:=by
      have:(own++capn)[own.length + j]? = some x:=e1
      rw [List.getElem?_append_right (by omega)] at this
      simpa using this
    obtain⟨k2,q1,q2,q3⟩:=S.cap j x e1'
    rw [hj] at q1;cases q1
    have hm:=f6 q3
    have kd:=S.free _ hm rfl
    obtain⟨m0,hn0,hl⟩:=I.loc
    obtain⟨u,r,lk⟩:=hl k x v q2 hk' (.inr kd)
    refine⟨u,r,.inr ⟨kL q3,?_⟩⟩
    rcases lk with ⟨z,_⟩|⟨_,c,hc,o,ho,hd⟩
    · rcases kd with e|e<;>(rw [z] at e;cases e)
    · obtain⟨c',hc'⟩:=hcl2 _ hm rfl
      have:=hcl1 _ _ hc'
      rw [hc] at this
      cases this
      exact⟨c,hc',o,hk c o ho,hd⟩
  cell:=fun x c e=>by
    obtain⟨v,o,ho,hd⟩:=I.cell x c (hcl1 x c e)
    exact⟨v,o,hk c o ho,hd⟩
  free:=by
    show upd H1 _ _ C=none
    rw [aB (Nat.ne_of_gt hC)]
    exact I.hok.fresh (Nat.le_of_lt hC)
  freeC:=fun x c e=>by
    obtain⟨v,o,ho,hd⟩:=I.cell x c (hcl1 x c e)
    rw [aB (Nat.ne_of_lt (Heap.lt_size ho))]
    exact I.freeC x c (hcl1 x c e)
  pin:=fun p hp=>absurd (show p∈([] : List (Addr × Obj)) from hp) (by simp)
  hok:=I.hok.laid hk (Nat.le_refl _) ⟨Nat.zero_le _,[],0,.nil,hD⟩
  len:=by
    show (stC own caps σ).length=(own++capn).length
    simp [stC,S.len]
end
theorem RS.other {K:PySem.W.Frag}{ρ:List Addr}{H:Hp}{σd:Sd}{hd:Hd}{σ:St}{d:Addr}{ys zs:List V}(r:RS K ρ H σd hd σ)(h:H d=some (.lst ys))(n:d ∉ ρ):RS K ρ (upd H d (.lst zs)) σd hd σ ∧ Kp ρ H ρ (upd H d (.lst zs)):=by
  have k:Kp ρ H ρ (upd H d (.lst zs)):=⟨fun _ _ h=>h,fun a us e=>by
    rw [aB (fun z=>by rw [z,h] at e;cases e)];exact e,fun a o u e=>by
    rw [aB (fun z=>by rw [z,h] at e;cases e)];exact e,fun a φ e=>by
    rw [aB (fun z=>by rw [z,h] at e;cases e)];exact e⟩
  refine⟨⟨⟨r.hp.len,r.hp.nd,fun m c a h1 h2=>(r.hp.cel m c a h1 h2).mono k (aB fun z=>n (by rw [← z];exact List.mem_of_getElem? h2))⟩,r.st.mono k⟩,k⟩
theorem Ext.other {ρ ρ':List Addr}{H H':Hp}{d:Addr}{o:HO}(e:Ext ρ H ρ' H')(h:H d=none):Ext ρ H ρ' (upd H' d o) :=
  ⟨e.pre,e.new,fun p u hp n=>by rw [aB (aC hp h)];exact e.frame p u hp n⟩
theorem wy {nl:Nat}{caps:List Nat}{σd:Sd}{i:Nat}{d:D}(h:slot (fX nl caps σd) i=some d):∃ j k,i=nl + j∧caps[j]? = some k∧slot σd k=some d:=by
  unfold fX at h
  simp only [slot] at h
  by_cases hi:i < nl
  · rw [List.getElem?_append_left (by simpa using hi)] at h
    simp [hi] at h
  · rw [List.getElem?_append_right (by simpa using Nat.le_of_not_lt hi)] at h
    simp only [List.length_replicate,List.getElem?_map] at h
    cases c:caps[i - nl]? with
    | none=>rw [c] at h;cases h
    | some k =>
      rw [c] at h
      simp only [Option.map_some] at h
      refine⟨i - nl,k,by omega,c,?_⟩
      simp only [slot]
      revert h
      cases e : σd[k]? with
      | none=>simp
      | some o=>cases o<;>simp
structure oQ (K:PySem.W.Frag) (ρ0:List Addr) (H0:Hp) (J:It) (l:List D) (G:Hd→Prop):Prop where
  go:∀ ρ H hd (i:Nat) d,Ext ρ0 H0 ρ H→RH K ρ H hd→G hd→l[i]? = some d→J.go i H ∧ ∀ x H',J.yld i H x H'→lH H H'∧RD K ρ H' d x
  stop:∀ ρ H hd,Ext ρ0 H0 ρ H→RH K ρ H hd→G hd→J.stop l.length H
  sz:l.length≤sizeLine
theorem qA.g {K:PySem.W.Frag}{ρ:List Addr}{H:Hp}{J:It}{l:List D}{g:Option Nat}(w:qA K ρ H J l g):oQ K ρ H J l (dl g l):=⟨w.go,w.stop,w.sz⟩
structure CD where
  i:Nat
  ys:List V
  acc:List D
  rest:List D
  ρ:List Addr
  σd:Sd
  hd:Hd
  H:Hp
  σ:St
structure CI (X:Cx) (own capn:List Str) (scope:Scope) (cl:List (Str × Addr)) (s2:Shared) (C:Addr) (H1:Hp) (ρ1:List Addr) (fp:List Addr) (tn:Nat→Heap→Prop) (G:Hd→Prop) (g:GF) (cs:List TF) (e:EF) (l:List D) (hdF:Hd) (ds:List D) (d:CD) (s':Shared):Prop where
  le:d.i≤l.length
  inv:Inv (cxC X (own++capn) scope cl C s2 H1 fp) [] d.σ d.H s'
  st:tn d.i s'.heap
  fr:∀ b∈fp,d.H b=none
  at':d.H s2.heap.objs.size=some (.lst d.ys)
  out:s2.heap.objs.size∉d.ρ
  yl:d.ys.length≤d.i
  ex:Ext ρ1 H1 d.ρ d.H
  rs:RS X.K d.ρ d.H d.σd d.hd d.σ
  ac:RDs X.K d.ρ d.H d.acc d.ys
  run:eX G g cs e (l.drop d.i) d.σd d.hd=.ok d.rest hdF
  eq:d.acc++d.rest=ds
section
variable {X:Cx} {pins:List (Addr × Obj)} {σ:St} {H1:Hp} {s2:Shared} {scope:Scope} {own capn:List Str} {caps:List Nat} {cl:List (Str × Addr)}
theorem yF {ρ1:List Addr}{σd:Sd}{hd1:Hd}(S:bI X scope own capn caps)(r:RS X.K ρ1 H1 σd hd1 σ){d:Addr}(hd:H1 d=none):RS X.K ρ1 (upd H1 d (.lst [])) (fX own.length caps σd) hd1 (stC own caps σ):=by
  have sm:=cm (o:=HO.lst []) hd
  refine⟨r.hp.same sm,⟨by simp [stC,fX],fun i x e => ?_⟩⟩
  obtain⟨j,k,rfl,hj,hs⟩:=wy e
  obtain⟨v,h1,h2⟩:=r.st.at' k x hs
  refine⟨v,?_,h2.mono (Kp.same sm)⟩
  unfold stC
  rw [List.getElem?_append_right (by simp)]
  simp [hj,h1]
theorem lL {elt tg iter:Expr}{ifs:List Expr}{pos:Pos}{it:Addr}{fp:List Addr}{tn:Nat→Heap→Prop}{J:It}{l:List D}{G:Hd→Prop}{g:GF}{cs:List TF}{e:EF}{ρ1:List Addr}{σd:Sd}{hd1 hdF:Hd}{ds:List D}{E:Value→Shared→Prop}{RR:Value→Addr→Result→Shared→Prop}
    (hc:X.calm=true) (S:bI X scope own capn caps) (hin:∀ cl C s H ex,MG (cxC X (own++capn) scope cl C s H ex) tg g∧MTs (cxC X (own++capn) scope cl C s H ex) ifs cs∧ME (cxC X (own++capn) scope cl C s H ex) elt e)
    (I1:Inv X pins σ H1 s2) (T:wg X.prog X.w X.K tg J fp it tn) (st0:tn 0 s2.heap) (hf:∀ b∈fp,oA X pins H1 b) (rs1:RS X.K ρ1 H1 σd hd1 σ) (wk:oQ X.K ρ1 H1 J l G)
    (hcl1:∀ x c,cl.lookup x=some c→X.env.cells.lookup x=some c) (hcl2:∀ y∈scope.names,y.2=.free → ∃ c,cl.lookup y.1=some c)
    (run:eX G g cs e l (fX own.length caps σd) hd1=.ok ds hdF)
    (hRR:∀ C s' m H' ρ' vs,s2.heap.objs.size < C→s'.heap.Ns C m→Inv X pins σ H' s'→H' C=none→Ext ρ1 H1 ρ' H'→RH X.K ρ' H' hdF→H1 s2.heap.objs.size=none→H' s2.heap.objs.size=some (.lst vs)→s2.heap.objs.size ∉ ρ'→RDs X.K ρ' H' ds vs →
      RR (.ref s2.heap.objs.size) C (.ok .next) s') :
    wpAny (model X.prog X.w) X.A (newList []) (fun acc s₃ => wpAny (model X.prog X.w) X.A (newFunctionEnv scope X.env.globals cl [] X.env.qual none .none (some X.env)) (fun cenv s₄ =>
      codeAny (model X.prog X.w) X.A (.compStart (.ListComp elt [⟨tg,iter,ifs,0⟩] scope pos) 0 (.ref it) acc { cenv with scope:=relabel scope X.env }) (RR acc cenv.locals) s₄) E s₃) E s2:=by
  refine wpAny_newObj_type (wpAny_newFunctionEnv S.cell (by intro y hy;simp at hy) (fun h₁ hns₁ hsb₁ => ?_) S.kind)
  dsimp only at hns₁ hsb₁ ⊢
  generalize hH2:s2.heap.push { cls:=.type "list",dict:=none,data:=.seq ([] : List Value).toArray } = H2 at hns₁ hsb₁ ⊢
  have hC:H2.objs.size=s2.heap.objs.size + 1:=by rw [← hH2,Heap.size_push]
  have hDC:s2.heap.objs.size≠H2.objs.size:=by rw [hC];exact Nat.ne_of_lt (Nat.lt_succ_self _)
  have old:∀ b o,s2.heap.get? b=some o→h₁.get? b=some o:=fun b o e=>hsb₁.extBut b o (by rw [hC];exact Nat.ne_of_lt (Nat.lt_succ_of_lt (Heap.lt_size e))) (Heap.get?_push_of_some _ (hH2 ▸ Heap.get?_push_of_some _ e))
  have hacc:h₁.get? s2.heap.objs.size=some { cls:=.type "list",data:=.seq #[] }:=hsb₁.extBut _ _ hDC (Heap.get?_push_of_some _ (hH2 ▸ Heap.get?_push_size _ rfl))
  have hlt:∀ b∈fp,b < s2.heap.objs.size:=fun b hb=>by
    obtain⟨o,ho,_⟩:=T.obj 0 _ st0 b hb
    exact Heap.lt_size ho
  have hCl:s2.heap.objs.size < H2.objs.size:=by rw [hC];exact Nat.lt_succ_self _
  have hD0:H1 s2.heap.objs.size=none:=I1.hok.fresh (Nat.le_refl _)
  have st1:tn 0 h₁ := T.keep 0 _ _ st0 fun b hb o e=>old b o e
  have hn1:s2.heap.objs.size ∉ ρ1:=rs1.hp.free hD0
  obtain⟨hG,hT,hE⟩:=hin cl H2.objs.size s2 H1 fp
  have I':=BX (tk:=s2.toks + ([] : List (Str × Value)).length) I1 S hCl hcl1 hcl2 hf hlt hns₁ old hacc
  have fpC:∀ {pins':List (Addr × Obj)} {H':Hp},(∀ b∈fp,H' b=none) → ∀ b∈fp,oA (cxC X (own++capn) scope cl H2.objs.size s2 H1 fp) [] H' b:=fun {pins' H'} hn b hb=>by
    obtain⟨f0,f1,f2,f3,f4,f5⟩:=hf b hb
    have lt:=hlt b hb
    refine⟨hn b hb,fun z=>absurd lt (by rw [show b=H2.objs.size from z,hC];exact Nat.not_lt.mpr (Nat.le_succ _)),fun z => ?_,.inl hb,fun x c e=>f4 x c (hcl1 x c e),fun p hp=>absurd (show p∈([] : List (Addr × Obj)) from hp) (by simp)⟩
    rcases List.mem_cons.mp (I1.stkSub b z) with q|q
    · exact f1 q
    · exact f2 q
  have loop:∀ s₃ : Shared,s₃ = { s2 with heap:=h₁,toks:=s2.toks + ([] : List (Str × Value)).length } →
      codeAny (model X.prog X.w) X.A (.compLoop (.ListComp elt [⟨tg,iter,ifs,0⟩] scope pos) 0 (.ref it) (.ref s2.heap.objs.size) (compEnvC scope cl H2.objs.size X.env)) (RR (.ref s2.heap.objs.size) H2.objs.size) s₃ := by
    rintro s₃ rfl
    refine tW (E:=fun _ _=>False) (fun _ _ z=>z) (fun n s'=>∃ d:CD,n=l.length - d.i∧CI X own capn scope cl s2 H2.objs.size H1 ρ1 fp tn G g cs e l hdF ds d s') ?_ l.length
      ⟨⟨0,[],[],ds,ρ1,_,hd1,_,_⟩,by simp,Nat.zero_le _,I',st1,fun b hb => ?_,bi,hn1,Nat.le_refl _,Ext.same (cm hD0),yF S rs1 hD0,RDs.nil,by simpa using run,rfl⟩
    · rintro n s' ⟨⟨i,ys,acc,rest,ρ',σd',hd',H',σ'⟩,rfl,ci⟩
      have hil:i≤l.length:=ci.le
      have I':Inv (cxC X (own++capn) scope cl H2.objs.size s2 H1 fp) [] σ' H' s':=ci.inv
      have stn:tn i s'.heap:=ci.st
      have hfp:∀ b∈fp,H' b=none:=ci.fr
      have hDy:H' s2.heap.objs.size=some (.lst ys):=ci.at'
      have hnD:s2.heap.objs.size ∉ ρ':=ci.out
      have hyl:ys.length≤i:=ci.yl
      have ex:Ext ρ1 H1 ρ' H':=ci.ex
      have rs':RS X.K ρ' H' σd' hd' σ':=ci.rs
      have racc:RDs X.K ρ' H' acc ys:=ci.ac
      have hrun:eX G g cs e (l.drop i) σd' hd'=.ok rest hdF:=ci.run
      have hds:acc++rest=ds:=ci.eq
      by_cases hlt':i < l.length
      · have hdi:l[i]? = some l[i]:=by simp [hlt']
        rw [List.drop_eq_getElem_cons hlt'] at hrun
        unfold eX at hrun
        by_cases hh:G hd'
        · rw [if_pos hh] at hrun
          obtain⟨go,yl⟩:=wk.go ρ' H' hd' i _ ex rs'.hp hh hdi
          cases c:g l[i] σd' with
          | none=>rw [c] at hrun;cases hrun
          | some σd2 =>
            rw [c] at hrun
            simp only at hrun
            refine thn (T.item (cxC X (own++capn) scope cl H2.objs.size s2 H1 fp) rfl rfl rfl hc i [] s' σ' H' (fun _ _=>False) I' (fpC (pins':=[]) hfp) stn go) fun r s₁ ⟨u,hr,h4⟩ => ?_
            subst hr
            refine thn h4 fun _ s5 ⟨x,H5,I5,r5,y5,st5,fr5⟩ => ?_
            obtain⟨sm,rx⟩:=yl x H5 y5
            have I5':=I5.pinned (fpC (pins':=[]) fr5) (T.obj _ _ st5)
            have rs5:=rs'.same sm
            have hDy5:=sm _ _ hDy
            refine thn (hG _ s5 σ' H5 x u (fun σ6 H6=>H6=H5∧RS X.K ρ' H5 σd2 hd' σ6) I5' r5 ⟨ρ',σd',hd',l[i],σd2,rs5,rx,c,fun σ6 rs6=>⟨rfl,rs6⟩⟩) fun _ s6 ⟨σ6,H6,I6,hH6,rs6⟩ => ?_
            subst hH6
            cases c2:gR cs σd2 hd' with
            | exc z h7=>rw [c2] at hrun;cases hrun
            | bad=>rw [c2] at hrun;cases hrun
            | ok b hd7 =>
              rw [c2] at hrun
              simp only [aI] at hrun
              refine thn (hT _ s6 σ6 H6 (fun b' H7=>b'=b ∧ ∃ ρ7,Ext ρ' H6 ρ7 H7∧RS X.K ρ7 H7 σd2 hd7 σ6) I6 ⟨ρ',σd2,hd',rs6,by
                rw [c2]
                exact fun b' H7 ρ7 ex7 rs7 q=>⟨q.symm,ρ7,ex7,rs7⟩⟩) fun b' s7 ⟨H7,I7,hb',ρ7,ex7,rs7⟩ => ?_
              subst hb'
              have stay:∀ {σ8:St} {H8:Hp} {s8:Shared},Inv (cxC X (own++capn) scope cl H2.objs.size s2 H1 fp) ([]++oC fp s5.heap) σ8 H8 s8→tn (i + 1) s8.heap ∧ ∀ b∈fp,H8 b=none:=fun {σ8 H8 s8} I8 =>
                ⟨T.keep _ _ _ st5 fun b hb o e=>(I8.pin (b,o) (List.mem_append_right _ (List.mem_append_right _ (ic hb e)))).1,fun b hb=>by
                  obtain⟨o,e,d⟩:=T.obj _ _ st5 b hb
                  exact (I8.pin (b,o) (List.mem_append_right _ (List.mem_append_right _ (ic hb e)))).2.1⟩
              have ex5:Ext ρ' H' ρ7 H7:=(Ext.same sm).trans ex7
              have hDy7:H7 s2.heap.objs.size=some (.lst ys):=ex5.frame _ _ hDy hnD
              have hnD7:=ex5.out hDy hnD
              have racc7:=racc.mono (rs'.hp.kp ex5)
              cases b' with
              | false =>
                simp only [Bool.false_eq_true,if_false] at hrun ⊢
                obtain⟨st8,f8⟩:=stay I7
                exact⟨l.length - (i + 1),by omega,⟨i + 1,ys,acc,rest,ρ7,σd2,hd7,H7,σ6⟩,rfl,hlt',I7.unpinned,st8,f8,hDy7,hnD7,Nat.le_succ_of_le hyl,ex.trans ex5,rs7,racc7,hrun,hds⟩
              | true =>
                simp only [if_true] at hrun ⊢
                cases c3:e σd2 hd7 with
                | exc z h7=>rw [c3] at hrun;cases hrun
                | bad=>rw [c3] at hrun;cases hrun
                | ok d hd8 =>
                  rw [c3] at hrun
                  simp only [aI] at hrun
                  cases c4:eX G g cs e (l.drop (i + 1)) σd2 hd8 with
                  | exc z h7=>rw [c4] at hrun;cases hrun
                  | bad=>rw [c4] at hrun;cases hrun
                  | ok rest' hd9 =>
                    rw [c4] at hrun
                    simp only [aI,Res.ok.injEq] at hrun
                    obtain⟨hrest,hF⟩:=hrun
                    subst hrest hF
                    refine thn (hE _ s7 σ6 H7 (fun v H8=>∃ ρ8,Ext ρ7 H7 ρ8 H8∧RS X.K ρ8 H8 σd2 hd8 σ6∧RD X.K ρ8 H8 d v) I7 ⟨ρ7,σd2,hd7,rs7,by
                      rw [c3]
                      exact fun v H8 ρ8 ex8 rs8 q=>⟨ρ8,ex8,rs8,q⟩⟩) fun u8 s8 ⟨v8,H8,I8,r8,ρ8,ex8,rs8,rd8⟩ => ?_
                    have hDy8:H8 s2.heap.objs.size=some (.lst ys):=ex8.frame _ _ hDy7 hnD7
                    have hnD8:=ex8.out hDy7 hnD7
                    refine thn (sj _ s8 σ6 H8 (.ref s2.heap.objs.size) [v8] (.ref s2.heap.objs.size) [u8] (fun _ H9=>H9=upd H8 s2.heap.objs.size (.lst (ys++[v8]))) I8 rfl (.cons r8 .nil) ⟨_,ys,v8,rfl,rfl,hDy8,by have:=wk.sz;omega,rfl⟩) fun u9 s9 ⟨v9,H9,I9,r9,q9⟩ => ?_
                    subst q9
                    obtain⟨st9,f9⟩:=stay I9
                    obtain⟨rs9,k9⟩:=rs8.other (zs:=ys++[v8]) hDy8 hnD8
                    exact⟨l.length - (i + 1),by omega,⟨i + 1,ys++[v8],acc++[d],rest',ρ8,σd2,hd8,_,σ6⟩,rfl,hlt',I9.unpinned,st9,f9,bi,hnD8,by simp;exact hyl,(ex.trans (ex5.trans ex8)).other hD0,rs9,
                      ((racc7.mono (rs7.hp.kp ex8)).mono k9).append (RDs.cons (rd8.mono k9) RDs.nil),c4,by rw [← hds];simp⟩
        · rw [if_neg hh] at hrun;cases hrun
      · have e0:i=l.length:=by omega
        subst e0
        rw [List.drop_length] at hrun
        unfold eX at hrun
        by_cases hh:G hd'
        · rw [if_pos hh] at hrun
          simp only [Res.ok.injEq] at hrun
          obtain⟨hrest,hF⟩:=hrun
          subst hrest hF
          rw [List.append_nil] at hds
          subst hds
          refine thn (T.done (cxC X (own++capn) scope cl H2.objs.size s2 H1 fp) rfl rfl rfl hc _ [] s' σ' H' (fun _ _=>False) I' (fpC (pins':=[]) hfp) stn (wk.stop ρ' H' hd' ex rs'.hp hh)) fun r s₁ ⟨hr,I4⟩ => ?_
          subst hr
          obtain⟨m,hm,_⟩:=I4.loc
          refine hRR H2.objs.size s₁ m H' ρ' ys hCl hm ?_ I4.free ex rs'.hp hD0 hDy hnD racc
          exact I1.call' I4.os I4.base I4.hok I4.bare fun b hb=>by
            obtain⟨f0,f1,f2,f3,f4,f5⟩:=hf b hb
            exact⟨f3,f1,f4,f5⟩
        · rw [if_neg hh] at hrun;cases hrun
    · show upd H1 _ _ b=none
      rw [aB (Nat.ne_of_lt (hlt b hb))]
      exact (hf b hb).1
  exact codeAny_compStart_list (loop _ rfl) (T.self _ 0 _ _ _ st1 (loop _ rfl))
end
section
variable {X:Cx} {pos:Pos} {scope:Scope} {own capn:List Str} {caps:List Nat}
theorem ef {elt tg iter:Expr}{ifs:List Expr}{f:IF}{g:GF}{cs:List TF}{e:EF}(hc:X.calm=true)(S:bI X scope own capn caps)(hi:MI X tg iter f)
    (hin:∀ cl C s H ex,MG (cxC X (own++capn) scope cl C s H ex) tg g∧MTs (cxC X (own++capn) scope cl C s H ex) ifs cs∧ME (cxC X (own++capn) scope cl C s H ex) elt e)
    (hs:∀ x,foldedSetIterable iter X.env x=pure x:=by intro _;rfl):MF X (.ListComp elt [⟨tg,iter,ifs,0⟩] scope pos) (bF own.length caps f g cs e):=by
  intro pins s σ H Q I ⟨ρ,σd,hd,rs,p⟩
  rw [eval_ListComp]
  unfold bF at p
  cases c:f σd hd with
  | exc z h7=>rw [c] at p;exact p.elim
  | bad=>rw [c] at p;exact p.elim
  | ok q hd1 =>
    obtain⟨l,gd⟩:=q
    rw [c] at p
    simp only [aI] at p
    obtain⟨cl,h1,hcl1,hcl2⟩:=ki (scope:=scope) (env:=X.env) fun y hy hyf=>I.ok.has y.1 (S.free y hy hyf)
    refine wpAny_comprehension_free (use:=none) rfl hs h1 S.kind S.names (thn (hi pins s σ H (fun J H1=>∃ ρ1,Ext ρ H ρ1 H1∧RS X.K ρ1 H1 σd hd1 σ ∧ qA X.K ρ1 H1 J l gd) I ⟨ρ,σd,hd,rs,by
      rw [c]
      exact fun J H' ρ' ex rs' wk=>⟨ρ',ex,rs',wk⟩⟩) fun v s1 h1=>thn h1 fun itv s2 h2 => ?_)
    obtain⟨it,fp,tn,J,H1,rfl,I1,T,st0,hf,ρ1,ex1,rs1,wk⟩:=h2
    cases c2:bQ gd l g cs e l (fX own.length caps σd) hd1 with
    | exc z h7=>rw [c2] at p;exact p.elim
    | bad=>rw [c2] at p;exact p.elim
    | ok ds hdF =>
      rw [c2] at p
      refine lL (RR:=fun acc C=>compPost (model X.prog X.w) X.A X.xe none (EP X pins σ Q) acc C) hc S hin I1 T st0 hf rs1 wk.g hcl1 hcl2 ((tV _ _ _).symm.trans c2) fun C s' m H' ρ' vs hC hn I' hCn ex rh hD0 hD hnD rds => ?_
      refine⟨m,hn,fun h' sb=>⟨.ref s2.heap.objs.size,H',?_,rfl,?_⟩⟩
      · refine I'.turned (it:=C) (t':=s'.toks) (fun b o hb e=>(sb.2 b hb).trans e) hCn ?_ (.inr (Nat.le_of_lt (Nat.lt_of_le_of_lt I1.sz hC))) (fun x c e z => ?_) fun q hq z => ?_
        · exact Nat.ne_of_gt (Nat.lt_trans I1.lt hC)
        · obtain⟨v,o,ho,hd⟩:=I1.cell x c e
          exact absurd (Nat.lt_trans (Heap.lt_size ho) hC) (by rw [z];exact Nat.lt_irrefl _)
        · exact absurd (Nat.lt_trans (Heap.lt_size (I1.pin q hq).1) hC) (by rw [z];exact Nat.lt_irrefl _)
      · exact p _ vs H' ρ' (ex1.trans ex) (rs.ext (ex1.trans ex) rh) (ex1.fresh hD0 (rs1.hp.free hD0)) hD hnD rds
theorem gm {i:Nat}{x:Str}{pos':Pos}{elt tg iter:Expr}{ifs:List Expr}{f:IF}{g:GF}{cs:List TF}{e:EF}{cpos:Pos}(hN:X.N.Nodup)(hi':X.N[i]? = some x)(hx:Loc X.env.scope x)(hc:X.calm=true)(S:bI X scope own capn caps)(hi:MI X tg iter f)
    (hin:∀ cl C s H ex,MG (cxC X (own++capn) scope cl C s H ex) tg g∧MTs (cxC X (own++capn) scope cl C s H ex) ifs cs∧ME (cxC X (own++capn) scope cl C s H ex) elt e)
    (hsw:swapsWith (.ListComp elt [⟨tg,iter,ifs,0⟩] scope cpos) (some (.Name x pos')) pos.line X.env=pure true:=by rfl)
    (hs:∀ x,foldedSetIterable iter X.env x=pure x:=by intro _;rfl) (hf':X.fn x=true∨X.env.scope.names.lookup x=some .local:=by first|exact .inl rfl|exact .inr rfl|assumption) :
    MS X (.Assign [.Name x pos'] (.ListComp elt [⟨tg,iter,ifs,0⟩] scope cpos) pos) (aT (gN i) (cj (bF own.length caps f g cs e))):=by
  intro pins s σ H En I ⟨ρ,σd,hd,rs,p⟩
  rw [exec_Assign_Name_used _ _ _ _ hsw]
  refine wpAny_bind (wpAny_standAt ?_)
  show wpAny _ _ ((comprehension _ scope X.env _ (newList []) _ _ _ >>= fun _=>pure ()) >>= fun _=>pure Flow.next) _ _ _
  have p1:=bZ.outE (σ := σ) p
  unfold cj bF at p1
  cases c:f σd hd with
  | exc z h7=>rw [c] at p1;exact p1.elim
  | bad=>rw [c] at p1;exact p1.elim
  | ok q hd1 =>
    obtain⟨l,gd⟩:=q
    rw [c] at p1
    simp only [aI] at p1
    obtain⟨cl,h1,hcl1,hcl2⟩:=ki (scope:=scope) (env:=X.env) fun y hy hyf=>I.ok.has y.1 (S.free y hy hyf)
    refine wpAny_bind (wpAny_bind (wpAny_comprehension_free (Q:=fun _ s'=>wpAny (model X.prog X.w) X.A (pure ()) (fun _ s'=>wpAny (model X.prog X.w) X.A (pure Flow.next) (SP X pins En) X.xe s') X.xe s') (use:=some (assign (.Name x pos') X.env)) rfl hs h1 S.kind S.names (thn (hi pins s σ H (fun J H1=>∃ ρ1,Ext ρ H ρ1 H1∧RS X.K ρ1 H1 σd hd1 σ ∧ qA X.K ρ1 H1 J l gd) I ⟨ρ,σd,hd,rs,by
      rw [c]
      exact fun J H' ρ' ex rs' wk=>⟨ρ',ex,rs',wk⟩⟩) fun v s1 h1=>thn h1 fun itv s2 h2 => ?_)))
    obtain⟨it,fp,tn,J,H1,rfl,I1,T,st0,hf,ρ1,ex1,rs1,wk⟩:=h2
    cases c2:bQ gd l g cs e l (fX own.length caps σd) hd1 with
    | exc z h7=>rw [c2] at p1;exact p1.elim
    | bad=>rw [c2] at p1;exact p1.elim
    | ok ds hdF =>
      rw [c2] at p1
      simp only [aI] at p1
      by_cases hz:ds.length≤SZ
      · rw [if_pos hz] at p1
        refine lL (RR:=fun acc C=>compPost (model X.prog X.w) X.A X.xe (some (assign (.Name x pos') X.env)) _ acc C) hc S hin I1 T st0 hf rs1 wk.g hcl1 hcl2 ((tV _ _ _).symm.trans c2) fun C s' m H' ρ' vs hC hn I' hCn ex rh hD0 hD hnD rds => ?_
        refine wpAny_assign_Name (rY I' hN hi' hx (v:=.ref s2.heap.objs.size) rfl (fun s'' I'' hsb => ?_) hf')
        have hCl:C≠X.env.locals:=Nat.ne_of_gt (Nat.lt_trans I1.lt hC)
        have hCc:∀ y c,X.env.cells.lookup y=some c→c≠C:=fun y c e z=>by
          obtain⟨v,o,ho,hd⟩:=I1.cell y c e
          exact absurd (Nat.lt_trans (Heap.lt_size ho) hC) (by rw [z];exact Nat.lt_irrefl _)
        refine⟨m,?_,fun h' sb=>wpAny_pure (wpAny_pure ?_)⟩
        · obtain⟨a,sa,ha⟩:=hsb
          refine hn.sameBut sa ?_
          rcases ha with z|z
          · rw [z];exact hCl
          · exact Ne.symm (hCc _ _ z)
        · have I3:Inv X pins (σ.set i (some (.ref s2.heap.objs.size))) H' { s'' with heap:=h' }:=I''.turned (it:=C) (t':=s''.toks) (fun b o hb e=>(sb.2 b hb).trans e) hCn hCl (.inr (Nat.le_of_lt (Nat.lt_of_le_of_lt I1.sz hC))) hCc fun q hq z =>
            absurd (Nat.lt_trans (Heap.lt_size (I1.pin q hq).1) hC) (by rw [z];exact Nat.lt_irrefl _)
          have ex':Ext ρ H ρ' H':=ex1.trans ex
          have rh':=rh.alloc hD hnD rds
          have hH0:H s2.heap.objs.size=none:=ex1.fresh hD0 (rs1.hp.free hD0)
          have exA:Ext ρ H (ρ'++[s2.heap.objs.size]) H':=⟨by obtain⟨t,rfl⟩:=ex'.pre;exact⟨t++[s2.heap.objs.size],by simp⟩,fun a ha=>by
            rcases List.mem_append.mp ha with z|z
            · exact ex'.new a z
            · simp at z;subst z;exact .inr hH0,ex'.frame⟩
          obtain⟨ρ2,d2,hd2,e2,rs2,rd2,pn⟩:=p1 (.ref s2.heap.objs.size) H' (ρ'++[s2.heap.objs.size]) exA (rs.ext exA rh') (by
            simp only [rD,RD]
            refine⟨s2.heap.objs.size,?_,rfl⟩
            rw [← rh.len]
            simp)
          exact⟨_,H',I3,pn _ H' ρ2 Ext.refl ⟨rs2.hp,rs2.st.set i rd2⟩⟩
      · rw [if_neg hz] at p1;exact p1.elim
end
end Fm
set_option Elab.async false
set_option linter.all false
set_option maxRecDepth 100000
namespace Fm
open PySem PySem.Spec L2 PyProof.Rows
mutual
def rfs (k:Nat):D→Prop
  | .ref n=>n < k
  | .tup l=>iV k l
  | .lit l=>iV k l
  | .exn _ l=>iV k l
  | _=>True
def iV (k:Nat):List D→Prop
  | []=>True
  | x :: xs=>rfs k x∧iV k xs
end
section
variable {K:PySem.W.Frag} {ρ ρ' t:List Addr} {H H':Hp} {hd hd':Hd}
mutual
theorem RD.rfs:∀ {d:D} {v:V},RD K ρ H d v→Fm.rfs ρ.length d
  | .non,_,_=>by simp only [Fm.rfs]
  | .bl _,_,_=>by simp only [Fm.rfs]
  | .int _,_,_=>by simp only [Fm.rfs]
  | .str _,_,_=>by simp only [Fm.rfs]
  | .tup l,_,h=>by
    simp only [RD] at h;obtain⟨p,vs,_,_,h2⟩:=h
    simp only [Fm.rfs];exact RDs.rfs h2
  | .lit l,_,h=>by
    simp only [RD] at h;obtain⟨p,vs,_,_,h2⟩:=h
    simp only [Fm.rfs];exact RDs.rfs h2
  | .ref n,_,h=>by
    simp only [RD] at h;obtain⟨a,h1,_⟩:=h
    simp only [Fm.rfs];exact (List.getElem?_eq_some_iff.mp h1).1
  | .exn _ _,_,h=>by simp only [RD] at h;obtain⟨rfl,_⟩:=h;simp only [Fm.rfs,Fm.iV]
theorem RDs.rfs:∀ {l:List D} {vs:List V},RDs K ρ H l vs→Fm.iV ρ.length l
  | [],_,_=>by simp only [Fm.iV]
  | d :: ds,_,h=>by
    simp only [RDs] at h;obtain⟨v,r,_,h1,h2⟩:=h
    simp only [Fm.iV];exact⟨RD.rfs h1,RDs.rfs h2⟩
end
mutual
theorem RD.cut:∀ {d:D} {v:V},RD K (ρ ++ t) H d v→Fm.rfs ρ.length d→RD K ρ H d v
  | .non,_,h,_=>by simp only [RD] at h ⊢;exact h
  | .bl _,_,h,_=>by simp only [RD] at h ⊢;exact h
  | .int _,_,h,_=>by simp only [RD] at h ⊢;exact h
  | .str _,_,h,_=>by simp only [RD] at h ⊢;exact h
  | .tup l,_,h,q=>by
    simp only [RD] at h ⊢;simp only [Fm.rfs] at q
    obtain⟨p,vs,e,h1,h2⟩:=h
    exact⟨p,vs,e,h1,RDs.cut h2 q⟩
  | .lit l,_,h,q=>by
    simp only [RD] at h ⊢;simp only [Fm.rfs] at q
    obtain⟨p,vs,e,h1,h2⟩:=h
    exact⟨p,vs,e,h1,RDs.cut h2 q⟩
  | .ref n,_,h,q=>by
    simp only [RD] at h ⊢;simp only [Fm.rfs] at q
    obtain⟨a,h1,h2⟩:=h
    exact⟨a,by rwa [List.getElem?_append_left q] at h1,h2⟩
  | .exn _ _,_,h,_=>by simp only [RD] at h ⊢;exact h
theorem RDs.cut:∀ {l:List D} {vs:List V},RDs K (ρ ++ t) H l vs→Fm.iV ρ.length l→RDs K ρ H l vs
  | [],_,h,_=>by simp only [RDs] at h ⊢;exact h
  | d :: ds,_,h,q=>by
    simp only [RDs] at h ⊢;simp only [Fm.iV] at q
    obtain⟨v,r,e,h1,h2⟩:=h
    exact⟨v,r,e,RD.cut h1 q.1,RDs.cut h2 q.2⟩
end
mutual
theorem oR {k:Nat}:∀ {d:D},pure? d=true→Fm.rfs k d
  | .non,_=>by simp only [Fm.rfs]
  | .bl _,_=>by simp only [Fm.rfs]
  | .int _,_=>by simp only [Fm.rfs]
  | .str _,_=>by simp only [Fm.rfs]
  | .tup l,h=>by simp only [pure?] at h;simp only [Fm.rfs];exact gS h
  | .lit l,h=>by simp only [pure?] at h;simp only [Fm.rfs];exact gS h
  | .exn _ l,h=>by simp only [pure?] at h;simp only [Fm.rfs];exact gS h
  | .ref _,h=>by simp only [pure?] at h;cases h
theorem gS {k:Nat}:∀ {l:List D},i3 l=true→Fm.iV k l
  | [],_=>by simp only [Fm.iV]
  | x :: xs,h=>by
    simp only [i3,Bool.and_eq_true] at h
    simp only [Fm.iV];exact⟨oR h.1,gS h.2⟩
end
def DX (k:Nat):ec→Prop
  | .lst l=>Fm.iV k l
  | .dct l=>Fm.iV k (l.map (·.2))
theorem RC.rfs {c:ec}{a:Addr}(h:RC K ρ H c a):DX ρ.length c:=by
  cases c with
  | lst l=>obtain⟨vs,_,h2⟩:=h;exact h2.rfs
  | dct l=>obtain⟨vs,_,_,h2⟩:=h;exact h2.rfs
theorem RC.cut {c:ec}{a:Addr}(h:RC K (ρ ++ t) H c a)(q:DX ρ.length c):RC K ρ H c a:=by
  cases c with
  | lst l=>obtain⟨vs,h1,h2⟩:=h;exact⟨vs,h1,h2.cut q⟩
  | dct l=>obtain⟨vs,h1,h2,h3⟩:=h;exact⟨vs,h1,h2,h3.cut q⟩
theorem tX {k:Nat}{c:ec}(h:wq c=true):DX k c:=by
  cases c with
  | lst l=>exact gS h
  | dct l =>
    have:∀ l:List (Int × D),(l.all fun p=>pure? p.2)=true→Fm.iV k (l.map (·.2)):=by
      intro l
      induction l with
      | nil=>intro _;simp only [List.map_nil,Fm.iV]
      | cons x l ih=>intro h;simp only [List.all_cons,Bool.and_eq_true] at h;simp only [List.map_cons,Fm.iV];exact⟨oR h.1,ih h.2⟩
    exact this l h
theorem RH.back (r:RH K ρ H hd)(r':RH K (ρ ++ t) H' hd')(o:DJ hd hd'):RH K ρ H' (hd'.take hd.length):=by
  have hl:(ρ ++ t).length=hd'.length:=r'.len
  refine⟨by rw [List.length_take,← hl,List.length_append,← r.len];omega,(List.nodup_append.mp r'.nd).1,fun n c a h1 h2 => ?_⟩
  have hn:n < hd.length:=by rw [← r.len];exact (List.getElem?_eq_some_iff.mp h2).1
  rw [List.getElem?_take_of_lt hn] at h1
  have q:=r'.cel n c a h1 (by rw [List.getElem?_append_left (by rw [r.len];exact hn)];exact h2)
  refine q.cut ?_
  rcases o n c hn h1 with z|z
  · exact (r.cel n c a z h2).rfs
  · exact tX z
def oS (K:PySem.W.Frag) (ρ:List Addr) (H:Hp) (r:Res D) (Q:VK):Prop:=match r with
  | .ok d hd'=>∀ v H' ρ',Ext ρ H ρ' H'→RH K ρ' H' hd'→RD K ρ' H' d v→Q v H'
  | _=>False
def spF (K:PySem.W.Frag) (F:Fn) (np:Nat):Sp:=fun vs H Q _=>∃ ρ hd ds,RH K ρ H hd∧RDs K ρ H ds vs∧ds.length=np∧oS K ρ H (F ds hd) Q
theorem Ext.short (e:Ext ρ H (ρ ++ t) H'):Ext ρ H ρ H':=⟨⟨[],by simp⟩,fun _ h=>.inl h,e.frame⟩
theorem oS.letGo {r:Res D}{Q:VK}(rh:RH K ρ H hd)(p:oS K ρ H (letGo hd r) Q):oS K ρ H r Q:=by
  cases r with
  | exc x h'=>exact p
  | bad=>exact p
  | ok d h' =>
    intro v H' ρ' ex rh' rd
    simp only [Fm.letGo] at p
    split at p
    · rename_i hc
      obtain⟨t,rfl⟩:=ex.pre
      exact p v H' ρ ex.short (rh.back rh' hc.2) (rd.cut (oR hc.1))
    · exact p v H' ρ' ex rh' rd
theorem oS.runB {n:Nat}{b:SF}{ds:List D}{Q:VK}(p:oS K ρ H (runB n b ds hd) Q):bZ K ρ H (b (ds.map some++List.replicate (n - ds.length) none) hd) { nx:=fun _ H'=>Q .non H',rt:=Q }:=by
  unfold Fm.runB at p
  cases e:b (ds.map some++List.replicate (n - ds.length) none) hd with
  | nx σ h'=>rw [e] at p;exact fun σ' H' ρ' ex rs=>p .non H' ρ' ex rs.hp (by simp only [RD])
  | rt d h'=>rw [e] at p;exact p
  | bk σ h'=>rw [e] at p;exact p.elim
  | ct σ h'=>rw [e] at p;exact p.elim
  | exc x σ h'=>rw [e] at p;exact p.elim
  | bad=>rw [e] at p;exact p.elim
theorem BY {N:List Str}{ds:List D}{vs:List V}(r:RDs K ρ H ds vs):RSt K ρ H (ds.map some++List.replicate (N.length - ds.length) none) (L2.iY N vs):=by
  have hl:=r.length
  refine⟨by simp [L2.iY,hl],fun i d e => ?_⟩
  simp only [slot] at e
  by_cases hi:i < ds.length
  · rw [List.getElem?_append_left (by simpa using hi)] at e
    simp only [List.getElem?_map,List.getElem?_eq_getElem hi,Option.map_some] at e
    cases e
    obtain⟨v,hv,q⟩:=r.get (i:=i) (d:=ds[i]) (by simp [hi])
    refine⟨v,?_,q⟩
    unfold L2.iY
    rw [List.getElem?_append_left (by simp;omega)]
    simp [hv]
  · rw [List.getElem?_append_right (by simpa using Nat.le_of_not_lt hi)] at e
    simp only [List.getElem?_replicate] at e
    by_cases hq:i - (List.map some ds).length < N.length - ds.length
    · simp only [hq,if_true] at e;cases e
    · simp only [hq,if_false] at e;cases e
end
structure Def (P:Program) (w:World) (K:PySem.W.Frag) (mg:Str→Option Value) (base:Heap) (x:Str) (k np:Nat) (F:Fn):Prop where
  ex:∃ f fd ps,mg x=some (.ref f)∧PySem.W.keepIn K (.ref f)=true∧oF K fd ps []∧cE P w K mg base CX0 k f fd ps (spF K F np)
section
variable {P:Program} {w:World} {K:PySem.W.Frag} {mg:Str→Option Value} {base:Heap}
theorem cf {x:Str}{st:Stmt}{f:Addr}{fd:FuncData}{N ps:List Str}{k:Nat}{b:SF}(F:Fun K x x st f fd)(S:aY N ps (aj st))
    (body:∀ (cdv:Value) (A:Around) (outer:List Env) (s:Shared) (H:Hp) (E:XK),ie k (A.deeper (envOfC x (aj st) s.heap.objs.size f cdv))→MSs (yy CX0 P w K mg base N x (aj st) f cdv A outer s H E).nox (aL st) b) :
    cE P w K mg base CX0 (k + 1) f fd ps (spF K (bM ps.length N.length b) ps.length):=by
  refine F.ok S (fun vs H Q E ⟨ρ,hd,ds,rh,rd,hl,p⟩=>by rw [← rd.length];exact hl) fun cdv A outer s H vs Q E hr ⟨ρ,hd,ds,rh,rd,hl,p⟩=>⟨_,body cdv A outer s H E hr,ρ,_,hd,⟨rh,BY rd⟩,?_⟩
  simp only [bM,hl,if_true] at p
  exact (oS.letGo rh p).runB
theorem Def.mk' {x:Str}{f:Addr}{fd:FuncData}{ps:List Str}{k np:Nat}{F:Fn}(hm:mg x=some (.ref f))(hk:PySem.W.keepIn K (.ref f)=true)(hb:oF K fd ps [])(h:cE P w K mg base CX0 k f fd ps (spF K F np)):Def P w K mg base x k np F:=⟨f,fd,ps,hm,hk,hb,h⟩
end
section
variable {X:Cx} {pos p:Pos}
theorem ao {x:Str}{k np:Nat}{F:Fn}{e:Expr}{es:List Expr}{r:LF}(hd:Def X.prog X.w X.K X.mg X.base x k np F)(hr:ie k X.A)(hg:Gl X x)(ha:MA X (e :: es) r)(hnp:∀ ds h d h',F ds h=.ok d h'→ds.length=np)
    (hdb:(x == ("__debug__" : Str))=false:=by decide) (he:starEach (e :: es) X.env=(false,eval e X.env) :: starEach es X.env:=by rfl) (hpl:(backTo pos (starEach es X.env)).any (·.1)=false:=by rfl) :
    ME X (.Call (.Name x p) (e :: es) [] pos) (ar F r):=by
  obtain⟨f,fd,ps,h1,h2,h3,h4⟩:=hd.ex
  refine PE.imp (F3 h4 hr hg h1 h2 h3 .nil Kf ha hdb he hpl) fun σ H Q ⟨ρ,σd,hd,rs,pp⟩=>⟨ρ,σd,hd,rs,(bw.bind (R:=rDs X.K) pp).imp fun vs H1 ⟨ρ1,ds,hd1,e1,rs1,rv,p1⟩ => ?_⟩
  rw [List.append_nil]
  cases c:F ds hd1 with
  | exc z h'=>rw [c] at p1;exact p1.elim
  | bad=>rw [c] at p1;exact p1.elim
  | ok d hd2 =>
    rw [c] at p1
    refine⟨ρ1,hd1,ds,rs1.hp,rv,hnp _ _ _ _ c,?_⟩
    rw [c]
    exact fun v H' ρ' ex rh rd=>p1 v H' ρ' ex (rs1.ext ex rh) rd
theorem ap {np n:Nat}{b:SF}:∀ ds h d h',bM np n b ds h=.ok d h'→ds.length=np:=by
  intro ds h d h' e
  unfold bM at e
  split at e
  · assumption
  · cases e
end
theorem Ko {l:PySem.W.OpenLaw}{q:Program}{loose:List Str}{XP:(Str→Option Value)→Heap→Prop}{YP:World→Heap→Prop}{d:DefRec}{K:Params→PySem.W.Frag}{F:Fn}{k:Nat}{x:Str}(hn:l.most=some 63)(hdf:d.params.defaults=[])(hr:ie k callerA)
    (hY:∀ (w:World) (h:Heap),YP w h→(K w.params).In h)
    (hF:∀ (w:World) (mg:Str→Option Value) (fa:Addr) (h:Heap),(K w.params).In h→h.Ns mainGlobals mg→mg d.name=some (.ref fa) →
      ∃ fd:FuncData,(∀ (s:Shared) (u:Value),BindsTo s fd ⟨[u],[]⟩ [(x,u)]) ∧ ∀ base:Heap,(K w.params).In base→base.Ns mainGlobals mg→cE l.prog w (K w.params) mg base CX0 k fa fd [x] (spF (K w.params) F 1))
    (law:∀ ns:List Int,ns.length≤63 → ∃ h,F [.lit (ns.map .int)] []=.ok (.bl true) h) :
    PySem.W.WalkO q loose XP YP l.row.toRowW d [] (fun f vs=>PySem.call f vs):=by
  refine L2.Gf (n:=63) (k:=k) (x:=x) (CX:=fun _=>CX0) (sp:=fun w=>spF (K w.params) F 1) hn (by decide) hdf hr hY hF (fun w H a ns hl hO hS => ?_) fun _ _ _ _ _ z=>z
  obtain⟨h,e⟩:=law ns hl
  have hL:m8 (K w.params) H a (ns.map V.int):=by
    rcases hS with (z|⟨o,z⟩)|z
    · rcases hO a with y|⟨o,xs,y⟩<;>(rw [z] at y;cases y)
    · exact .inl ⟨o,z⟩
    · exact .inr z
  have hI:RDs (K w.params) [] H (ns.map D.int) (ns.map V.int):=by
    clear hl hS e hL law
    induction ns with
    | nil=>exact RDs.nil
    | cons n ns ih=>exact RDs.cons (by simp only [RD]) ih
  refine⟨[],[],[.lit (ns.map .int)],⟨rfl,List.nodup_nil,fun n c a h1=>by simp at h1⟩,RDs.cons (by simp only [RD];exact⟨a,_,rfl,hL,hI⟩) RDs.nil,rfl,?_⟩
  rw [e]
  intro v H' ρ' ex rh rd
  simpa only [RD] using rd
end Fm
set_option Elab.async false
set_option linter.all false
set_option maxRecDepth 100000
namespace Fm
open PySem PySem.Spec L2
open PyProof.Rows (Subscript_ tail_any)
def tyS:Ty→String
  | .int => "int" | .bool => "bool" | .tuple => "tuple" | .list => "list" | .str => "str"
theorem fE (t:Ty):typeOf (.type (tyS t))=pure (.type "type"):=by
  cases t
  · exact F.isi_meta_int
  · exact F.isi_meta_bool
  · exact F.isi_meta_tuple
  · exact F.isi_meta_list
  · exact F.isi_meta_str
theorem Gm (t:Ty):isSubtype (.type "NoneType") (.type (tyS t))=pure false:=by cases t<;>(rw [isSubtype_type];kernel_rfl)
theorem Jc {t:Ty} (h:t ≠ .int):isSubtype (.type "int") (.type (tyS t))=pure false:=by cases t<;>first|exact absurd rfl h|(rw [isSubtype_type];kernel_rfl)
theorem Gn {t:Ty} (h:t ≠ .int) (h2:t ≠ .bool):isSubtype (.type "bool") (.type (tyS t))=pure false:=by cases t<;>first|exact absurd rfl h|exact absurd rfl h2|(rw [isSubtype_type];kernel_rfl)
theorem Jd {t:Ty} (h:t ≠ .str):isSubtype (.type "str") (.type (tyS t))=pure false:=by cases t<;>first|exact absurd rfl h|(rw [isSubtype_type];kernel_rfl)
theorem DY {t:Ty} (h:t ≠ .tuple):isSubtype (.type "tuple") (.type (tyS t))=pure false:=by cases t<;>first|exact absurd rfl h|(rw [isSubtype_type];kernel_rfl)
theorem A7 {t:Ty} (h:t ≠ .list):isSubtype (.type "list") (.type (tyS t))=pure false:=by cases t<;>first|exact absurd rfl h|(rw [isSubtype_type];kernel_rfl)
theorem Gp (t:Ty):isSubtype (.type "dict") (.type (tyS t))=pure false:=by cases t<;>(rw [isSubtype_type];kernel_rfl)
theorem jK (t:Ty):isSubtype (.type (tyS t)) (.type (tyS t))=pure true:=by cases t<;>(rw [isSubtype_type];kernel_rfl)
theorem wz:isSubtype (.type "bool") (.type (tyS .int))=pure true:=by rw [isSubtype_type];kernel_rfl
theorem m9 {n:String}{t:Ty}(h:n≠tyS t):(Value.type n == Value.type (tyS t))=false:=by
  rw [beq_eq_false_iff_ne];intro e;cases e;exact h rfl
theorem yG {a b:Ty}(h:a≠b):(a == b)=false:=by cases a<;>cases b<;>first|rfl|exact absurd rfl h
section
variable {X:Cx} {pos p:Pos}
theorem Je {pins:List (Addr × Obj)}{σ:St}{H:Hp}{s:Shared}{ρ:List Addr}{hd:Hd}{d:D}{v:V}{u:Value}{t:Ty}{b:Bool}{Q:Value→Shared→Prop}{E:Value→Shared→Prop}(I:Inv X pins σ H s)(rh:RH X.K ρ H hd)(rd:RD X.K ρ H d v)(r:bS v u)(e:BV hd t d=some b)
    (q:∀ s',Inv X pins σ H s'→Q (.bool b) s'):wpAny (model X.prog X.w) X.A (call (.builtin "isinstance") [u,.type (tyS t)]) Q E s:=by
  have q0:=q s I
  have q1:=q { s with toks:=s.toks + 1 } (I.tok _)
  have yes:∀ {n:String},s.TypeIs u n→isSubtype (.type n) (.type (tyS t))=pure true→Q (.bool true) s→wpAny (model X.prog X.w) X.A (call (.builtin "isinstance") [u,.type (tyS t)]) Q E s:=fun h1 h2 h3=>call_isinstance (isinstance_true (fE t) h2) ⟨h1,h3⟩
  cases d<;>simp only [RD] at rd<;>simp only [BV] at e
  · subst rd;cases r;cases e
    exact call_isinstance (isinstance_false_none (by cases t<;>exact m9 (by decide)) (fE t) (Gm t)) q1
  · subst rd;cases r
    by_cases h1:t=.int
    · subst h1;cases e;exact yes (n := "bool") rfl wz q0
    · by_cases h2:t=.bool
      · subst h2;cases e;exact yes (n := "bool") rfl (jK .bool) q0
      · rw [yG h1,yG h2] at e;cases e
        exact call_isinstance (isinstance_false_bool (by cases t<;>first|exact absurd rfl h1|exact absurd rfl h2|exact m9 (by decide)) (fE t) (Gn h1 h2)) q1
  · subst rd;obtain⟨tk,rfl⟩:=r
    by_cases h1:t=.int
    · subst h1;cases e;exact yes (n := "int") rfl (jK .int) q0
    · rw [yG h1] at e;cases e
      exact call_isinstance (isinstance_false_int (by cases t<;>first|exact absurd rfl h1|exact m9 (by decide)) (fE t) (Jc h1)) q1
  · subst rd;obtain⟨tk,rfl⟩:=r
    by_cases h1:t=.str
    · subst h1;cases e;exact yes (n := "str") rfl (jK .str) q0
    · rw [yG h1] at e;cases e
      exact call_isinstance (isinstance_false_str (by cases t<;>first|exact absurd rfl h1|exact m9 (by decide)) (fE t) (Jd h1)) q1
  · obtain⟨a,vs,rfl,ha,_⟩:=rd
    cases r
    obtain⟨its,_,o,ho,hc,_⟩:=io I.hok ha
    by_cases h1:t=.tuple
    · subst h1;cases e;exact yes (n := "tuple") ⟨o,ho,hc⟩ (jK .tuple) q0
    · rw [yG h1] at e;cases e
      exact call_isinstance (isinstance_false_tuple (by cases t<;>first|exact absurd rfl h1|exact m9 (by decide)) (fE t) (DY h1)) ⟨⟨o,ho,hc⟩,q1⟩
  · rename_i n
    obtain⟨a,ha,rfl⟩:=rd
    cases r
    cases c:hd[n]? with
    | none=>rw [c] at e;cases e
    | some cell =>
      rw [c] at e
      cases cell with
      | lst l =>
        obtain⟨vs,hv,_⟩:=rh.cel n _ a c ha
        obtain⟨z,its,k,_,ho⟩:=I.hok a _ hv
        by_cases h1:t=.list
        · subst h1;cases e;exact yes (n := "list") ⟨_,ho,rfl⟩ (jK .list) q0
        · simp only [yG h1] at e;cases e
          exact call_isinstance (isinstance_false_list (by cases t<;>first|exact absurd rfl h1|exact m9 (by decide)) (fE t) (A7 h1)) ⟨⟨_,ho,rfl⟩,q1⟩
      | dct l =>
        obtain⟨vs,hv,_,_⟩:=rh.cel n _ a c ha
        obtain⟨_,_,_,_,o,_,_,ho,ex,_⟩:=I.hok a _ hv
        cases e
        exact call_isinstance (isinstance_false_dict (by cases t<;>exact m9 (by decide)) (fE t) (Gp t)) ⟨⟨o,ho,ex.1⟩,q1⟩
  · obtain⟨a,vs,rfl,ha,_⟩:=rd
    cases r
    obtain⟨its,_,pl,_⟩:=I.list ha.sq
    obtain⟨o,ho,hc,_⟩:=pl.isList
    by_cases h1:t=.list
    · subst h1;cases e;exact yes (n := "list") ⟨o,ho,hc⟩ (jK .list) q0
    · simp only [yG h1] at e;cases e
      exact call_isinstance (isinstance_false_list (by cases t<;>first|exact absurd rfl h1|exact m9 (by decide)) (fE t) (A7 h1)) ⟨⟨o,ho,hc⟩,q1⟩
  · cases e
def Lc (K:PySem.W.Frag) (t:Ty):List V→Hp→VK→Prop:=fun xs H Q=>∃ ρ hd d v b,xs=[v,.ty (tyS t)]∧RH K ρ H hd∧RD K ρ H d v∧BV hd t d=some b∧Q (.bl b) H
theorem DZ (t:Ty):fA X (.builtin "isinstance") (Lc X.K t):=by
  intro pins s σ H xs us Q I r h
  obtain⟨ρ,hd,d,v,b,rfl,rh,rd,e,q⟩:=h
  obtain⟨u,u2,rfl,ru,ru2⟩:=aS.two r
  cases (show u2=Value.type (tyS t) from ru2)
  exact Je I rh rd ru e fun s' I'=>⟨.bl b,H,I',rfl,q⟩
theorem om {t:Ty} {a:Expr} {fa:EF} {p2:Pos} {n:Str} (hg:Gl X "isinstance") (hm:X.mg "isinstance" = none) (hg2:Gl X n) (hm2:X.mg n=none) (hv:bootBuiltins n=some (.type (tyS t))) (ha:ME X a fa)
    (hs:starEach [a,.Name n p2] X.env=(false,eval a X.env) :: starEach [.Name n p2] X.env:=by rfl) (hs2:starEach [.Name n p2] X.env=(false,eval (.Name n p2) X.env) :: starEach [] X.env:=by rfl) (hn:n ≠ "__name__" := by decide) (hd:(n == ("__debug__" : Str))=false:=by decide) :
    ME X (.Call (.Name "isinstance" p) [a,.Name n p2] [] pos) (kJ t fa):=by
  refine PE.imp (gM (DZ t) hg hm (by decide +kernel) (bX ha (bX (FP (v:=.ty (tyS t)) hg2 hm2 hv rfl hn hd) df hs2) hs) (he:=hs)) fun σ H Q ⟨ρ,σd,hd,rs,pp⟩=>⟨ρ,σd,hd,rs,(bw.bind (R:=rD X.K) pp).imp fun v H1 ⟨ρ1,d,hd1,e1,rs1,rv,p1⟩ => ?_⟩
  cases c:BV hd1 t d with
  | none=>simp only [c] at p1;exact p1.elim
  | some b=>simp only [c] at p1;exact⟨ρ1,hd1,d,v,b,rfl,rs1.hp,rv,c,p1.here rs1 (by simp only [rD,RD])⟩
theorem bo:OpR X (binaryOp .Add) (fun x y H Q=>rI0 (fun i j=>.int (i + j)) x y H Q∨DF X.K x y H Q):=Iz.or Ga
theorem bW {K:PySem.W.Frag}:Og K bT (fun x y H Q=>rI0 (fun i j=>.int (i + j)) x y H Q∨DF K x y H Q):=by
  intro ρ H σd hd σ d k v w Q rs rv rw' pp
  cases d<;>try exact pp.elim
  · cases k<;>try exact pp.elim
    simp only [RD] at rv rw'
    exact .inl ⟨_,_,rv,rw',pp.here rs (by simp only [rD,RD])⟩
  · rename_i l
    cases l with
    | nil=>exact pp.elim
    | cons x xs =>
      cases k<;>try exact pp.elim
      rename_i ys
      simp only [bT] at pp
      split at pp
      · rename_i hz
        simp only [RD] at rv rw'
        obtain⟨a,vs,rfl,ha,rvs⟩:=rv
        obtain⟨b,ws,rfl,hb,rws⟩:=rw'
        refine .inr ⟨a,b,vs,ws,rfl,rfl,SqT.of ha,SqT.of hb,?_,?_,fun z => ?_,fun _ q hq => ?_⟩
        · intro z;subst z;have:=rvs.length;simp at this
        · rw [← rvs.length,← rws.length];exact og hz
        · subst z
          have hy:ys=[]:=by have:=rws.length;simpa using this
          subst hy
          exact pp.here rs (by simp only [rD,RD];exact⟨a,vs,rfl,ha,by simpa using rvs⟩)
        · have sm:=cm (o:=HO.tup (vs++ws)) hq
          exact pp.at (Ext.same sm) (rs.same sm) (by simp only [rD,RD];exact⟨q,_,rfl,bi,(RDs.append rvs rws).mono (Kp.same sm)⟩)
      · exact pp.elim
theorem Gq {a:Expr} {la:LF} (hg:Gl X "list") (hm:X.mg "list" = none) (ha:MQ X a la) (hs:starEach [a] X.env=(false,eval a X.env) :: starEach [] X.env:=by rfl):MF X (.Call (.Name "list" p) [a] [] pos) la:=by
  refine PE.imp (lF tM hg hm (by decide +kernel) (bX ha df hs) (he:=hs)) fun σ H Q ⟨ρ,σd,hd,rs,pp⟩=>⟨ρ,σd,hd,rs,?_⟩
  cases e:la σd hd with
  | exc x h'=>rw [e] at pp;exact pp
  | bad=>rw [e] at pp;exact pp
  | ok l hd1 =>
    rw [e] at pp
    intro v H1 ρ1 e1 rs1 ⟨q,vs,hv,sq,rvs⟩
    subst hv
    exact⟨q,vs,rfl,sq.imp id SqT.of,pp.mk e1 rs1 rvs⟩
def MO (X:Cx) (e:Option Expr) (f:OF):Prop:=PO X e (jT X.K rO f)
theorem wA:MO X none pNo:=fun pins s σ H Q I ⟨ρ,σd,hd,rs,pp⟩=>F8 pins s σ H Q I (pp.here rs rfl)
theorem wB {e:Expr}{f:EF}(h:ME X e f):MO X (some e) (pAt f):=fun pins s σ H Q I ⟨ρ,σd,hd,rs,pp⟩=>F9 h pins s σ H Q I ⟨ρ,σd,hd,rs,(bw.bind (R:=rD X.K) pp).imp fun v H1 ⟨ρ1,d,hd1,e1,rs1,rv,p1⟩=>by
  cases d<;>try exact p1.elim
  simp only [rD,RD] at rv
  exact⟨_,rv,p1.here rs1 rfl⟩⟩
theorem tY {K:PySem.W.Frag}{ρ:List Addr}{H:Hp}{l:List D}{vs:List V}{lo hi:Option Int}(r:RDs K ρ H l vs):RDs K ρ H (cut l lo hi) (lG vs lo hi):=by
  have e:∀ (n d:Nat) (o:Option Int),Fm.sIx n d o=HT.sIx n d o:=fun n d o=>by cases o<;>rfl
  unfold cut lG
  rw [r.length,e,e]
  exact (r.drop _).take _
theorem kM {a:Expr}{fa:EF}{lo hi:Option Expr}{fl fh:OF}{p2:Pos}(ha:ME X a fa)(hl:MO X lo fl)(hh:MO X hi fh):ME X (.Subscript a (.Slice lo hi none p2) pos) (gx fa fl fh):=by
  refine PE.imp (wo (SlR.or Gb DE) ha hl hh) fun σ H Q ⟨ρ,σd,hd,rs,pp⟩ => ?_
  unfold gx at pp
  refine⟨ρ,σd,hd,rs,(bw.bind (R:=rD X.K) pp).imp fun v H1 ⟨ρ1,d,hd1,e1,rs1,rv,p1⟩ => ?_⟩
  refine⟨ρ1,σd,hd1,rs1,(bw.bind (R:=rO) p1).imp fun o1 H2 ⟨ρ2,o1',hd2,e2,rs2,q2,p2⟩ => ?_⟩
  cases q2
  refine⟨ρ2,σd,hd2,rs2,(bw.bind (R:=rO) p2).imp fun o2 H3 ⟨ρ3,o2',hd3,e3,rs3,q3,p3⟩ => ?_⟩
  cases q3
  have rv3:=(rv.mono (rs1.hp.kp e2)).mono (rs2.hp.kp e3)
  have list:∀ l,cI hd3 d=some l→bw X.K (rD X.K) ρ3 H3 σd σ (.ok (.ref hd3.length) (hd3++[.lst (cut l o1 o2)])) Q→Ke X.K v o1 o2 H3 Q:=fun l c p=>by
    obtain⟨q,vs,hv,sq,rvs⟩:=ip rs3.hp rv3 c
    refine⟨q,vs,hv,sq,fun q' hq => ?_⟩
    have sm:=cm (o:=HO.lst (lG vs o1 o2)) hq
    have nq:=rs3.hp.free hq
    have rh:=(rs3.hp.same sm).alloc bi nq ((tY rvs).mono (Kp.same sm))
    have ex:Ext ρ3 H3 (ρ3++[q']) (upd H3 q' (.lst (lG vs o1 o2))):=Ext.alloc hq
    refine p.at ex (rs3.ext ex rh) ?_
    simp only [rD,RD]
    exact⟨q',by rw [← rs3.hp.len];simp,rfl⟩
  cases d with
  | tup l =>
    simp only at p3
    split at p3
    · exact p3.elim
    · rename_i hw
      simp only [RD] at rv3
      obtain⟨q,vs,rfl,hq,rvs⟩:=rv3
      have e:∀ (n d:Nat) (o:Option Int),Fm.sIx n d o=HT.sIx n d o:=fun n d o=>by cases o<;>rfl
      refine .inr ⟨q,vs,rfl,SqT.of hq,by rw [← rvs.length,← e,← e];exact hw,fun q' hq' => ?_⟩
      have sm:=cm (o:=HO.tup (lG vs o1 o2)) hq'
      exact p3.at (Ext.same sm) (rs3.same sm) (by simp only [rD,RD];exact⟨q',_,rfl,bi,(tY rvs).mono (Kp.same sm)⟩)
  | ref n =>
    simp only at p3
    cases c:cI hd3 (.ref n) with
    | none=>rw [c] at p3;exact p3.elim
    | some l=>rw [c] at p3;exact .inl (list l c p3)
  | lit l' =>
    simp only at p3
    cases c:cI hd3 (.lit l') with
    | none=>rw [c] at p3;exact p3.elim
    | some l=>rw [c] at p3;exact .inl (list l c p3)
  | _=>exact p3.elim
theorem gD {o e:Expr} {fo fe:EF} {apos cpos:Pos} (ho:ME X o fo) (he:ME X e fe) (hbase:attributeBase o "append" X.env (eval o X.env)=eval o X.env:=by rfl)
    (hfew:((backTo cpos (starEach [e] X.env)).all (fun x => !x.1) && (backToKw cpos (keywordEach [] X.env)).all (fun x=>x.1.isSome)
      && decide (([e] : List Expr).length + ([] : List Keyword).length + (if ([] : List Keyword).isEmpty then 0 else 1) < 30))=true:=by rfl)
    (hline:(apos.endLine == cpos.line)=true:=by rfl) (hs:starEach [e] X.env=(false,eval e X.env) :: starEach [] X.env:=by rfl) :
    ME X (.Call (.Attribute o "append" apos) [e] [] cpos) (ik fo fe):=by
  refine PE.imp (HM PySem.F.plainAttrs_list PySem.F.slot_list_append PySem.F.type_list_append sj ho (bX he df hs) hbase hfew hline hs) fun σ H Q ⟨ρ,σd,hd,rs,pp⟩=>⟨ρ,σd,hd,rs,?_⟩
  unfold ik at pp
  refine (bw.bind (R:=rD X.K) pp).imp fun v H1 ⟨ρ1,d,hd1,e1,rs1,rv,p1⟩ => ?_
  cases d<;>try exact p1.elim
  rename_i n
  simp only [rD,RD] at rv
  obtain⟨a,ha,rfl⟩:=rv
  simp only at p1
  cases c1:hd1[n]? with
  | none=>rw [c1] at p1;exact p1.elim
  | some cell1 =>
    rw [c1] at p1
    cases cell1 with
    | dct l=>exact p1.elim
    | lst l1 =>
      obtain⟨vs,hv,_⟩:=rs1.hp.cel n _ a c1 ha
      simp only at p1
      refine⟨.inl ⟨rfl,vs,SqL.of hv⟩,ρ1,σd,hd1,rs1,(bw.bind (R:=rD X.K) p1).imp fun w H2 ⟨ρ2,k,hd2,e2,rs2,rw',p2⟩ => ?_⟩
      simp only [IQ] at p2
      cases c:hd2[n]? with
      | none=>rw [c] at p2;exact p2.elim
      | some cell =>
        rw [c] at p2
        cases cell with
        | dct l=>exact p2.elim
        | lst l =>
          simp only at p2
          split at p2
          · rename_i hz
            have ha2:=e2.get ha
            obtain⟨vs2,hv2,rvs2⟩:=rs2.hp.cel n _ a c ha2
            refine⟨a,vs2,w,rfl,rfl,hv2,?_,?_⟩
            · rw [← rvs2.length];exact Nat.lt_of_lt_of_le hz (by rw [sizeLine_eq];decide)
            · have hn:n < hd2.length:=(List.getElem?_eq_some_iff.mp c).1
              have rh:=rs2.hp.write ha2 hn (RDs.append rvs2 (RDs.cons rw' RDs.nil))
              have ex:Ext ρ2 H2 ρ2 (upd H2 a (.lst (vs2++[w]))):=Ext.write (List.mem_of_getElem? ha2)
              exact p2.at ex (rs2.ext ex rh) (by simp only [rD,RD])
          · exact p2.elim
end
end Fm
set_option Elab.async false
set_option linter.all false
set_option maxRecDepth 100000
namespace Fm
open PySem PySem.Spec L2
open AutoSeq1 (wpAny_loadPart')
open PyProof.Rows (Call_)
theorem wC {a b:String}(h:Value.type a=Value.type b)(n:a≠b):False:=by injection h with h;exact n h
theorem i9 (l:Addr)(items:Array Value)(n:Nat)(dct:Option Addr)(sl:Array (Option Value)) :
    Meets (Builtin.«enumerate.__new__» ⟨[.type "enumerate",.ref l],[]⟩) (fun _ R s=>s.heap.get? l=some { cls:=.type "tuple",dict:=dct,data:=.seq items n,slots:=sl } ∧
      R (.ok (.ret (.ref (s.heap.push { cls:=.type "tuple_iterator",data:=.fields #[.ref l,.int 0 0] }).objs.size)))
        { s with heap:=(s.heap.push { cls:=.type "tuple_iterator",data:=.fields #[.ref l,.int 0 0] }).push { cls:=.type "enumerate",data:=.fields #[.none,.bool false,.ref s.heap.objs.size,rawInt 0,.none,.none] } }) :=
  .of_wp fun prog w A R s h=>by
    obtain⟨hp,g,d,tk,os⟩:=s;obtain⟨hl,h⟩:=h
    have hsub:=sub_enumerate
    have hL:Heap.IsTuple (Shared.heap ⟨hp,g,d,tk,os⟩) l items:=⟨_,hl,rfl,n,rfl⟩
    wp_walk using wpAny_loadPart' hl
    refine wpAny_stack_any fun st=>wpAny_pure ?_
    split
    · rename_i c _ _ _ _ _
      cases (c == Value.type "enumerate")
      · wp_walk using wpAny_loadPart' hl,wpAny_pyIter_tuple hL
        exact⟨_,rfl,h⟩
      · wp_walk using wpAny_loadPart' hl,wpAny_pyIter_tuple hL
        exact⟨_,rfl,h⟩
    · wp_walk using wpAny_loadPart' hl,wpAny_pyIter_tuple hL
      exact⟨_,rfl,h⟩
section
variable {prog:Program} {w:World} {A:Around} {E:Value→Shared→Prop} {s:Shared}
theorem ja {l:Addr}{items:Array Value}{Q:Value→Shared→Prop}(hL:s.heap.IsTuple l items)
    (h:∀ h',IsEnum h' (s.heap.objs.size + 1) s.heap.objs.size 0 .none→h'.IsTupleIter s.heap.objs.size l 0→h'.objs.size=s.heap.objs.size + 2 →
      (∀ b o,s.heap.get? b=some o→h'.get? b=some o)→Q (.ref (s.heap.objs.size + 1)) { s with heap:=h' }) :
    wpAny (model prog w) A (call (.type "enumerate") [.ref l]) Q E s:=by
  obtain⟨⟨c,dct,dt,sl⟩,hl,hc,n,hd⟩:=hL
  replace hc:c=.type "tuple" := hc
  replace hd:dt=.seq items n:=hd
  subst hc hd
  refine callType_new F.called_enumerate (by decide) (F.typeCall_enumerate_1 _) (F.newCall_enumerate_1 _) (fun obj=>F.args_object_init_2 obj _) F.entry_enumerate_new
    (i9 l items n dct sl) ⟨hl,?_⟩
  have hz:(s.heap.push { cls:=.type "tuple_iterator",data:=.fields #[.ref l,.int 0 0] }).objs.size=s.heap.objs.size + 1:=Heap.size_push ..
  show _∧_
  rw [hz]
  have he:IsEnum ((s.heap.push { cls:=.type "tuple_iterator",data:=.fields #[.ref l,.int 0 0] }).push
      { cls:=.type "enumerate",data:=.fields #[.none,.bool false,.ref s.heap.objs.size,rawInt 0,.none,.none] }) (s.heap.objs.size + 1) s.heap.objs.size 0 .none:=by
    have:=Heap.get?_push_size (s.heap.push { cls:=.type "tuple_iterator",data:=.fields #[.ref l,.int 0 0] })
      (o:={ cls:=.type "enumerate",data:=.fields #[.none,.bool false,.ref s.heap.objs.size,rawInt 0,.none,.none] }) rfl
    rw [hz] at this;exact this
  refine⟨⟨_,he,rfl⟩,h _ he ⟨_,Heap.get?_push_of_some _ (Heap.get?_push_size _ rfl),rfl,rfl⟩ (by rw [Heap.size_push,hz]) fun b o x=>Heap.get?_push_of_some _ (Heap.get?_push_of_some _ x)⟩
theorem gn {it l:Addr}{i:Nat}{items:Array Value}{x:Value}{Q:Value→Shared→Prop}(hit:s.heap.IsTupleIter it l i)
    (hl:s.heap.IsTuple l items) (hx:items[i]? = some x)
    (hQ:∀ h',h'.IsTupleIter it l (i + 1)→Heap.SameBut it s.heap h'→Q x { s with heap:=h' }) :
    wpAny (model prog w) A (Builtin.SmallTypes.nextOf (.ref it)) Q E s:=by
  obtain⟨o,ho,hc,hd⟩:=id hit
  obtain⟨ol,hol,_,nl,hdl⟩:=hl
  unfold Builtin.SmallTypes.nextOf
  refine wpAny_bind (wpAny_callSpecial?_slot (name:=Str.ofString "__next__") hit.typeIs F.slot_tuple_iterator_next
    (wpAny_call_entry F.slot_tuple_iterator_next hit.typeIs F.entry_tuple_iterator_next ?_ (F.args_tuple_iterator_next_1 _)))
  show wpAny _ _ (field (.ref it) 0 >>= _) _ _ s
  refine wpAny_bind (wpAny_field ho hd (x:=.ref l) rfl ?_)
  show wpAny _ _ (if (Value.ref l == Value.none)=true then _ else _) _ _ s
  rw [if_neg (show ¬ ((Value.ref l == Value.none)=true) from Bool.false_ne_true)]
  show wpAny _ _ (field (.ref it) 1 >>= _) _ _ s
  refine wpAny_bind (wpAny_field ho hd (x:=.int i 0) rfl ?_)
  show wpAny _ _ (seqItems? (.ref l) >>= _) _ _ s
  refine wpAny_bind (wpAny_seqItems hol hdl ?_)
  simp only [Int.toNat_natCast,hx]
  refine wpAny_bind (wpAny_setField ho hd (by simp) (wpAny_pure ⟨x,rfl,wpAny_pure (hQ _ ?_ (Heap.SameBut.update ..))⟩))
  exact⟨_,Heap.get?_update_self _ ho (Obj.isFreed_of_fields (Obj.data_mapFields hd _)),(Obj.cls_mapFields ..).trans hc,by
    rw [Obj.data_mapFields hd];simp [rawInt]⟩
theorem gU {it l:Addr}{i:Nat}{items:Array Value}{Q:Value→Shared→Prop}(hh:A.handled=none)
    (hit:s.heap.IsTupleIter it l i) (hl:s.heap.IsTuple l items) (hx:items[i]? = none)
    (hE:∀ h' e,Heap.ExtBut it s.heap h'→(∃ o,h'.get? e=some o∧o.cls=.type "StopIteration")→E (.ref e) { s with heap:=h' }) :
    wpAny (model prog w) A (Builtin.SmallTypes.nextOf (.ref it)) Q E s:=by
  obtain⟨o,ho,hc,hd⟩:=id hit
  obtain⟨ol,hol,_,nl,hdl⟩:=hl
  unfold Builtin.SmallTypes.nextOf
  refine wpAny_bind (wpAny_callSpecial?_slot (name:=Str.ofString "__next__") hit.typeIs F.slot_tuple_iterator_next
    (wpAny_call_entry F.slot_tuple_iterator_next hit.typeIs F.entry_tuple_iterator_next ?_ (F.args_tuple_iterator_next_1 _)))
  show wpAny _ _ (field (.ref it) 0 >>= _) _ _ s
  refine wpAny_bind (wpAny_field ho hd (x:=.ref l) rfl ?_)
  show wpAny _ _ (if (Value.ref l == Value.none)=true then _ else _) _ _ s
  rw [if_neg (show ¬ ((Value.ref l == Value.none)=true) from Bool.false_ne_true)]
  show wpAny _ _ (field (.ref it) 1 >>= _) _ _ s
  refine wpAny_bind (wpAny_field ho hd (x:=.int i 0) rfl ?_)
  show wpAny _ _ (seqItems? (.ref l) >>= _) _ _ s
  refine wpAny_bind (wpAny_seqItems hol hdl ?_)
  simp only [Int.toNat_natCast,hx]
  refine wpAny_bind (wpAny_rule (wpAny_bind (wpAny_setField ho hd (by simp) ?_)))
  show wpAny _ _ (newExc (.type "StopIteration") [] >>= _) _ _ _
  refine wpAny_bind ?_
  simp only [newExc,newTuple]
  refine wpAny_bind (wpAny_newObj_type ?_ (by size_fits))
  refine wpAny_bind (m:=firstArgMember _ _) (wpAny_of_eq (a:=Value.none) (by first|rfl|(simp only [firstArgMember];rfl)) ?_)
  refine wpAny_newObj_type ?_ (by size_fits)
  simp only [raiseNew]
  refine wpAny_bind (wpAny_handled ?_)
  first|rw [show A.in1.handled=none from hh] | rw [hh]
  refine wpAny_bind (wpAny_pure (wpAny_throw ?_))
  exact hE _ _ (((Heap.SameBut.update ..).extBut.push _).push _) ⟨_,Heap.get?_push_size _ rfl,rfl⟩
end
theorem nc {prog:Program}{w:World}{A:Around}(hh:A.handled=none)(it l:Addr)(hne:l≠it)(items:Array Value) :
    Draws prog w A it [it,l] items.size (fun i v=>items[i]? = some v) (fun i h=>h.IsTupleIter it l i∧h.IsTuple l items) where
  live:=fun _ _ st=>let ⟨o,ho,_⟩:=st.1;⟨o,ho⟩
  frame:=fun _ _ _ st hk=>⟨st.1.at fun o e=>hk it (by simp) o e,let ⟨o,ho,r⟩:=st.2;⟨o,hk l (by simp) o ho,r⟩⟩
  item:=fun i s Q E hi st hQ=>by
    have hx:items[i]? = some items[i]:=by simp [hi]
    refine gn st.1 st.2 hx fun h' hit' hs' => ?_
    refine hQ _ h' s.toks hx ⟨hit',?_⟩ hs'
    obtain⟨o,ho,r⟩:=st.2
    exact⟨o,(hs'.2 l hne).trans ho,r⟩
  done:=fun s Q E st hE=>gU hh st.1 st.2 (by simp) hE
def Ite (K:PySem.W.Frag) (a:Addr):It :=
  ⟨fun i H=>∃ xs x,SqT K H a xs∧xs[i]? = some x,fun i H x H'=>∃ q v,x=.ref q∧H q=none∧H'=upd H q (.tup [.int (i:Nat),v]) ∧ ∀ xs,SqT K H a xs→xs[i]? = some v,fun i H=>∃ xs,SqT K H a xs∧xs.length=i⟩
theorem BZ {P:Program}{w:World}{K:PySem.W.Frag}{elts:List Expr}{k:Nat}{pos:Pos}(e it a:Addr):wg P w K (.Tuple elts k pos) (Ite K a) [e,it] e (fun i h=>(∃ old,IsEnum h e it (i:Nat) old)∧h.IsTupleIter it a i) where
  mem:=by simp
  obj:=fun i h st b hb=>by
    obtain⟨⟨old,he⟩,o,ho,hc,hd⟩:=st
    rcases List.mem_cons.mp hb with rfl|hb
    · exact⟨_,he,fun v z=>by
        have z':Data.fields _=Data.cell v:=z
        cases z'⟩
    · have:b=it:=by simpa using hb
      subst this
      exact⟨o,ho,fun v z=>by rw [hd] at z;cases z⟩
  keep:=fun i h h' st kk=>by
    obtain⟨⟨old,he⟩,st⟩:=st
    exact⟨⟨old,kk e (by simp) _ he⟩,st.at fun o x=>kk it (by simp) o x⟩
  item:=by
    intro X hP hw hK hc i pins s σ H E I hf st hg
    subst hP hw hK
    obtain⟨⟨old,he⟩,hit⟩:=st
    obtain⟨xs,x,hq,hx⟩:=hg
    obtain⟨its,rv,p,hz⟩:=I.tuple hq
    have ht:s.heap.IsTuple a its.toArray:=p
    obtain⟨oi,hoi,hci,hdi⟩:=id hit
    obtain⟨oa,hoa,hca,na,hda⟩:=id ht
    have hei:e≠it:=fun z=>by
      subst z
      have he':s.heap.get? e=_:=he
      rw [hoi] at he';cases he';exact wC hci (by decide)
    have hea:e≠a:=fun z=>by
      subst z
      have he':s.heap.get? e=_:=he
      rw [hoa] at he';cases he';exact wC hca (by decide)
    have hai:a≠it:=fun z=>by
      subst z
      rw [hoi] at hoa;cases hoa;rw [hci] at hca;exact wC hca (by decide)
    obtain⟨e0,e1,e2,e3,e4,e5⟩:=hf e (by simp)
    obtain⟨f0,f1,f2,f3,f4,f5⟩:=hf it (by simp)
    have hlt:i < its.toArray.size:=by
      have:=(List.getElem?_eq_some_iff.mp hx).1
      have hl:=rv.length
      simp;omega
    refine wpAny_pyNext_enum_itemD (nc (prog:=X.prog) (w:=X.w) (A:=X.A.in1) (I.ok.hd hc) it a hai its.toArray) he ⟨hit,ht⟩ hlt hei (by simp;exact⟨hei,hea⟩) fun y h' tk hy heo hst' htup hsz hk => ?_
    refine⟨_,rfl,wpAny_letOwnedTupleGo_enum heo fun h2 he2 hs2 => ?_⟩
    replace hs2:Heap.SameBut e h' h2:=hs2
    obtain⟨u,hu,ru⟩:=rv.get hx
    have hyu:y=u:=by
      have:its.toArray[i]? = some u:=by simpa using hu
      rw [hy] at this;exact Option.some.inj this
    subst hyu
    have elt:e < s.heap.objs.size:=Heap.lt_size he
    have ilt:it < s.heap.objs.size:=Heap.lt_size hoi
    have hN:H s.heap.objs.size=none:=I.hok.fresh (Nat.le_refl _)
    have keep:∀ b o,b≠e→b≠it→s.heap.get? b=some o→h2.get? b=some o:=fun b o b1 b2 q=>(hs2.2 b b1).trans (hk b o b1 b2 q)
    have htup2:h2.get? s.heap.objs.size=some { cls:=.type "tuple",data:=.seq #[.int i tk,y] }:=(hs2.2 _ (Nat.ne_of_gt elt)).trans htup
    have nch:∀ b,b∉([e,it] : List Addr)→b≠e∧b≠it:=fun b hb=>by simpa using hb
    refine⟨.ref s.heap.objs.size,upd H s.heap.objs.size (.tup [.int (i:Nat),x]),?_,rfl,⟨_,x,rfl,hN,rfl,fun ys hys=>by rw [I.tuple_inj hys hq];exact hx⟩,⟨⟨_,by simpa using he2⟩,hst'.1.extBut hs2.extBut (Ne.symm hei)⟩,fun b hb => ?_⟩
    · suffices I2:L2.Inv X pins σ (upd H s.heap.objs.size (.tup [.int (i:Nat),x])) { s with heap:=h2,gens:=s.gens,drawn:=s.drawn,toks:=tk + 1 } from I2
      refine I.step (g':=s.gens) (d':=s.drawn) (t':=tk + 1) (ch:=[e,it]) (fun b hb => ?_) (fun b o _ _ hb q _=>keep b o (nch b hb).1 (nch b hb).2 q) (fun b o _ _ hb q _=>⟨o.slots,keep b o (nch b hb).1 (nch b hb).2 q⟩) (fun b o _ q n => ?_) (fun b o hb q=>⟨o,keep b o (nch b hb).1 (nch b hb).2 q⟩)
        (fun b ys q => ?_) (fun b o u q => ?_) (fun b ps q=>⟨#[],?_⟩) (fun m hm => ?_) (fun b u q => ?_) I.bare
      · rcases List.mem_cons.mp hb with rfl|hb
        · exact⟨e3,e1,e4,e5⟩
        · have:b=it:=by simpa using hb
          subst this
          exact⟨f3,f1,f4,f5⟩
      · rw [aB (Nat.ne_of_lt (Heap.lt_size q))];exact n
      · rw [aB (aC q hN)];exact q
      · rw [aB (aC q hN)];exact q
      · rw [aB (aC q hN),q];simp
      · obtain⟨o,es,ep,ho,r⟩:=hm
        exact⟨o,es,ep,keep _ o (Ne.symm e1) (Ne.symm f1) ho,r⟩
      · by_cases hb:b=s.heap.objs.size
        · subst hb
          rw [bi] at q
          cases q
          exact⟨by show 2≤sizeLine;rw [sizeLine_eq];decide,[.int i tk,y],.cons ⟨tk,rfl⟩ (.cons ru .nil),⟨_,htup2,rfl,_,rfl⟩,_,htup2,rfl⟩
        · rw [aB hb] at q
          have ne1:∀ c v,H c=some v→c≠e:=fun c v z w=>by rw [w,e0] at z;cases z
          have ne2:∀ c v,H c=some v→c≠it:=fun c v z w=>by rw [w,f0] at z;cases z
          refine (I.hok b u q).stay (fun c v hc' z => ?_) (fun c z=>by rw [aB (aC z hN)];exact z) fun c ys z=>by rw [aB (aC z hN)];exact z
          rcases hc' with w|w
          · subst w;exact keep c v (ne1 c _ q) (ne2 c _ q) z
          · exact keep c v (ne1 c _ w) (ne2 c _ w) z
    · have:b≠s.heap.objs.size:=by
        rcases List.mem_cons.mp hb with rfl|hb
        · exact Nat.ne_of_lt elt
        · have:b=it:=by simpa using hb
          subst this
          exact Nat.ne_of_lt ilt
      rw [aB this]
      exact (hf b hb).1
  done:=by
    intro X hP hw hK hc i pins s σ H E I hf st hg
    subst hP hw hK
    obtain⟨⟨old,he⟩,hit⟩:=st
    obtain⟨xs,hq,hx⟩:=hg
    obtain⟨its,rv,p,hz⟩:=I.tuple hq
    have ht:s.heap.IsTuple a its.toArray:=p
    obtain⟨oi,hoi,hci,hdi⟩:=id hit
    obtain⟨oa,hoa,hca,na,hda⟩:=id ht
    have hai:a≠it:=fun z=>by
      subst z
      rw [hoi] at hoa;cases hoa;rw [hci] at hca;exact wC hca (by decide)
    obtain⟨f0,f1,f2,f3,f4,f5⟩:=hf it (by simp)
    have hsz:its.toArray.size=i:=by have:=rv.length;simp;omega
    refine wpAny_pyNext_enum_endD (nc (prog:=X.prog) (w:=X.w) (A:=X.A.in1) (I.ok.hd hc) it a hai its.toArray) he ⟨by rw [hsz];exact hit,ht⟩ fun h' hx'=>⟨rfl,I.turned (t':=s.toks) (fun b o hb e=>hx' b o hb e) f0 f1 f3 f4 f5⟩
  self:=fun _ _ _ _ _ st h=>by
    obtain⟨⟨old,he⟩,_⟩:=st
    exact wpAny_pyIter_enum he h
section
variable {X:Cx} {pos p tp:Pos} {elts:List Expr} {tk:Nat}
def iEn (K:PySem.W.Frag) (ta:TE):TI:=fun σ H R=>ta σ H fun x H1=>∃ a xs,x=.ref a∧SqT K H1 a xs∧(xs.length≤sizeLine→R (Ite K a) H1)
theorem Gr {a:Expr} {ta:TE} (hg:Gl X "enumerate") (hm:X.mg "enumerate" = none) (ha:PE X a ta) (hs:starEach [a] X.env=[(false,eval a X.env)]:=by rfl):PI X (.Tuple elts tk tp) (.Call (.Name "enumerate" p) [a] [] pos) (iEn X.K ta):=by
  intro pins s σ H R I h
  have hpa:=bX ha df hs
  refine Call_ (ke I hg hm PyProof.Rows.boot_enumerate (PyProof.Rows.callWith_type1 (thn (hpa pos pins s σ H (fun vs H1=>∃ a xs,vs=[.ref a]∧SqT X.K H1 a xs∧(xs.length≤sizeLine→R (Ite X.K a) H1)) I ?_) fun us s1 ⟨vs,H1,I1,r1,q1⟩ => ?_) hs rfl))
  · show ta σ H fun x H1=>_
    have key:∀ (x:V) (H1:Hp),(∃ a xs,x=.ref a∧SqT X.K H1 a xs∧(xs.length≤sizeLine→R (Ite X.K a) H1))=(∃ a xs,[x] = [.ref a]∧SqT X.K H1 a xs∧(xs.length≤sizeLine→R (Ite X.K a) H1)):=fun x H1=>by simp
    have h':ta σ H fun x H1=>∃ a xs,x=.ref a∧SqT X.K H1 a xs∧(xs.length≤sizeLine→R (Ite X.K a) H1):=h
    simp only [key] at h'
    exact h'
  · obtain⟨a,xs,e,hq,q⟩:=q1
    subst e
    obtain⟨u,rfl,ru⟩:=aS.one r1
    cases (show u=Value.ref a from ru)
    obtain⟨its,rv,pt,hz⟩:=I1.tuple hq
    refine ja (show s1.heap.IsTuple a its.toArray from pt) fun h' he hit hsz hk => ?_
    refine wpAny_pyIter_enum (s:={ s1 with heap:=h' }) he ?_
    have I2:Inv X pins σ H1 { s1 with heap:=h' }:=I1.kept (t':=s1.toks) hk
    refine⟨s1.heap.objs.size + 1,[s1.heap.objs.size + 1,s1.heap.objs.size],_,_,H1,rfl,I2,BZ (s1.heap.objs.size + 1) s1.heap.objs.size a,⟨⟨_,by simpa using he⟩,hit⟩,fun b hb => ?_,q hz⟩
    have hb':s1.heap.objs.size≤b:=by
      rcases List.mem_cons.mp hb with e|hb
      · rw [e];exact Nat.le_succ _
      · have:b=s1.heap.objs.size:=by simpa using hb
        rw [this];exact Nat.le_refl _
    exact I1.fpOk hb' (I1.hok.fresh hb')
theorem B3 {K:PySem.W.Frag}{ρ:List Addr}{H:Hp}{hd:Hd}{q:Addr}{l:List D}{vs:List V}(r:RH K ρ H hd)(hq:H q=some (.tup vs))(rv:RDs K ρ H l vs)(hz:vs.length≤sizeLine) :
    qA K ρ H (Ite K q) ((List.range l.length).zip l |>.map fun p=>.tup [.int (p.1:Nat),p.2]) none where
  go:=fun ρ' H' hd' i d ex rh _ hi=>by
    have k:=r.kp ex
    obtain⟨hil,hi2⟩:=List.getElem?_eq_some_iff.mp hi
    have hl:i < l.length:=by simpa using hil
    have hd:d=.tup [.int (i:Nat),l[i]]:=by rw [← hi2];simp
    subst hd
    obtain⟨v,hv,rd⟩:=(rv.mono k).get (i:=i) (d:=l[i]) (by simp [hl])
    have sq:SqT K H' q vs:=SqT.of (k.tup q vs hq)
    refine⟨⟨vs,v,sq,hv⟩,fun x H2 y => ?_⟩
    obtain⟨q2,v2,rfl,hn,rfl,y⟩:=y
    have:=y vs sq
    rw [hv] at this
    cases this
    have sm:=cm (o:=HO.tup [.int (i:Nat),v]) hn
    refine⟨sm,?_⟩
    simp only [RD]
    exact⟨q2,_,rfl,bi,RDs.cons (by simp only [RD]) (RDs.cons (rd.mono (Kp.same sm)) RDs.nil)⟩
  stop:=fun ρ' H' hd' ex rh _=>⟨vs,SqT.of ((r.kp ex).tup q vs hq),by rw [← rv.length];simp⟩
  sz:=by
    have:=rv.length
    simp;omega
theorem Gs {a:Expr} {f:EF} (hg:Gl X "enumerate") (hm:X.mg "enumerate" = none) (ha:ME X a f) (hs:starEach [a] X.env=[(false,eval a X.env)]:=by rfl):MI X (.Tuple elts tk tp) (.Call (.Name "enumerate" p) [a] [] pos) (DI f):=by
  refine PI.imp (Gr hg hm ha hs) fun σ H R ⟨ρ,σd,hd,rs,pp⟩=>⟨ρ,σd,hd,rs,?_⟩
  unfold DI at pp
  cases e:f σd hd with
  | exc x h1=>rw [e] at pp;exact pp
  | bad=>rw [e] at pp;exact pp
  | ok d hd1 =>
    rw [e] at pp
    simp only [aI] at pp
    intro v H1 ρ1 ex1 rs1 rv
    cases d<;>try exact pp.elim
    rename_i l
    simp only [rD,RD] at rv
    obtain⟨q,vs,rfl,hq,rvs⟩:=rv
    exact⟨q,vs,rfl,SqT.of hq,fun hz=>pp _ H1 ρ1 ex1 rs1 (B3 rs1.hp hq rvs hz)⟩
end
end Fm
set_option Elab.async false
set_option linter.all false
set_option maxRecDepth 100000
namespace Fm
open PySem PySem.Spec L2 PySem.W PyProof.Rows
section
variable {prog:Program} {w:World} {A:Around} {E:Value→Shared→Prop} {s:Shared}
theorem yH {a:Addr} {vs:List Value} {n:Nat} {P:PySem.Fin→Shared→Prop} (ho:s.heap.get? a=some (seqObj "list" vs.toArray n)) (h2:vs.length < 2)
    (h:P (.done (.ret .none)) { s with heap:=sortedHeap s.heap a vs vs.toArray }):wpAny (model prog w) A (Builtin.«list.sort» ⟨[.ref a],[]⟩) P E s:=by
  rw [list_sort_plain]
  have ha:a < s.heap.objs.size:=Heap.lt_size ho
  refine wpAny_bind (listItems_at ho rfl ?_)
  refine wpAny_bind (listUpdate_at ho rfl ?_)
  obtain⟨e1,ho1⟩ : ∃ e1,(s.heap.update a (Obj.mapSeq fun _ => #[])).get? a=some (seqObj "list" #[] e1):=⟨_,get?_update_seq ho (fun _ => #[])⟩
  refine wpAny_bind (seqEpoch_at ho1 rfl ?_)
  refine wpAny_bind (wpAny_newTuple ?_)
  refine wpAny_bind (wpAny_newList ?_)
  refine wpAny_holding ?_
  have ho6:(((s.heap.update a (Obj.mapSeq fun _ => #[])).push (seqObj "tuple" vs.toArray 0)).push (seqObj "list" #[] 0)).get? a=some (seqObj "list" #[] e1):=by
    rw [Heap.get?_push_ne _ _ _ (by rw [size_push',Heap.size_update];exact Nat.ne_of_lt (Nat.lt_succ_of_lt ha)),Heap.get?_push_ne _ _ _ (by rw [Heap.size_update];exact Nat.ne_of_lt ha)]
    exact ho1
  show wpAny (model prog w) A _ P E { s with heap:=((s.heap.update a (Obj.mapSeq fun _ => #[])).push (seqObj "tuple" vs.toArray 0)).push (seqObj "list" #[] 0) }
  dsimp only
  have hsz:vs.toArray.size=vs.length:=by simp
  have h2':vs.toArray.size < 2:=by rw [hsz];exact h2
  rw [if_pos h2',if_pos h2']
  refine wpAny_bind (wpAny_pure ?_)
  rw [StateT.run_pure]
  refine wpAny_bind (wpAny_pure ?_)
  dsimp only
  refine wpAny_bind (seqEpoch_at ho6 rfl ?_)
  refine wpAny_bind (listUpdate_at ho6 rfl ?_ (hsz2:=by rw [Array.size_map];show (pairsOf vs).size≤_;rw [pairsOf_size,sizeLine_eq];omega))
  simp only [bne_self_eq_false,Bool.false_eq_true,if_false]
  have e:(arrOf (SortSt.mk' general' (vs.toArray.zip vs.toArray) #[] 7 none)).map (·.2)=vs.toArray:=by
    show (vs.toArray.zip vs.toArray).map (·.2)=vs.toArray
    apply Array.ext
    · simp
    · intro i h1 h2
      simp
  refine wpAny_pure ?_
  have h':=h
  unfold sortedHeap at h'
  rw [e]
  exact h'
theorem kN {l:Addr}{vs:List Value}{Q:Value→Shared→Prop}(hl:s.heap.IsList l vs.toArray)(h2:vs.length < 2)
    (h:∀ h' n,(∀ b o,s.heap.get? b=some o→h'.get? b=some o)→h'.get? (s.heap.objs.size + 1)=some (seqObj "list" vs.toArray n)→Q (.ref (s.heap.objs.size + 1)) { s with heap:=h' }) :
    wpAny (model prog w) A (call (.builtin "sorted") [.ref l]) Q E s:=by
  refine Calls.call_function_entry kind_sorted plain_sorted entry_sorted (args_sorted1 _) ?_
  unfold Builtin.«sorted»
  refine wpAny_bind (m:=checkCount "sorted" 1 1 _) (wpAny_pure ?_)
  refine wpAny_bind (collect_list hl ?_ (by rw [sizeLine_eq];omega))
  refine wpAny_bind (wpAny_newList ?_ (by rw [sizeLine_eq];omega))
  have hsz:((s.heap.push (seqObj "list" #[] 0)).update s.heap.objs.size (Obj.mapSeq (· ++ vs.toArray))).objs.size=s.heap.objs.size + 1:=by
    rw [Heap.size_update,size_push']
  have hoL:(((s.heap.push (seqObj "list" #[] 0)).update s.heap.objs.size (Obj.mapSeq (· ++ vs.toArray))).push (seqObj "list" vs.toArray 0)).get? (s.heap.objs.size + 1)=some (seqObj "list" vs.toArray 0):=by
    rw [← hsz];exact Heap.get?_push_size _ rfl
  have keep:∀ b o,s.heap.get? b=some o→(((s.heap.push (seqObj "list" #[] 0)).update s.heap.objs.size (Obj.mapSeq (· ++ vs.toArray))).push (seqObj "list" vs.toArray 0)).get? b=some o:=fun b o q=>by
    have hlt:b < s.heap.objs.size:=Heap.lt_size q
    rw [Heap.get?_push_ne _ _ _ (by rw [hsz];exact Nat.ne_of_lt (Nat.lt_succ_of_lt hlt)),Heap.get?_update_ne _ _ _ _ (Nat.ne_of_lt hlt),Heap.get?_push_ne _ _ _ (Nat.ne_of_lt hlt)]
    exact q
  show wpAny _ _ _ _ _ { s with heap:=((s.heap.push (seqObj "list" #[] 0)).update s.heap.objs.size (Obj.mapSeq (· ++ vs.toArray))).push (seqObj "list" vs.toArray 0) }
  rw [hsz]
  generalize hG:((s.heap.push (seqObj "list" #[] 0)).update s.heap.objs.size (Obj.mapSeq (· ++ vs.toArray))).push (seqObj "list" vs.toArray 0)=G at hoL keep
  have hGs:G.objs.size=s.heap.objs.size + 2:=by rw [← hG,size_push',hsz]
  refine wpAny_bind (wpAny_holding (wpAny_call_entry slot_list_sort (s:={ s with heap:=G }) ⟨_,hoL,rfl⟩ entry_list_sort (yH hoL h2 ⟨_,rfl,?_⟩) (args_list_sort _)))
  refine wpAny_pure ⟨_,rfl,?_⟩
  have hlt1:s.heap.objs.size + 1 < G.objs.size:=by omega
  obtain⟨e1,ho1⟩ : ∃ e1,(G.update (s.heap.objs.size + 1) (Obj.mapSeq fun _ => #[])).get? (s.heap.objs.size + 1)=some (seqObj "list" #[] e1):=⟨_,get?_update_seq hoL (fun _ => #[])⟩
  have ho6:(((G.update (s.heap.objs.size + 1) (Obj.mapSeq fun _ => #[])).push (seqObj "tuple" vs.toArray 0)).push (seqObj "list" #[] 0)).get? (s.heap.objs.size + 1)=some (seqObj "list" #[] e1):=by
    rw [Heap.get?_push_ne _ _ _ (by rw [size_push',Heap.size_update];exact Nat.ne_of_lt (Nat.lt_succ_of_lt hlt1)),Heap.get?_push_ne _ _ _ (by rw [Heap.size_update];exact Nat.ne_of_lt hlt1)]
    exact ho1
  refine h _ _ (fun b o q => ?_) (get?_update_seq ho6 _)
  have hlt:b < s.heap.objs.size:=Heap.lt_size q
  unfold sortedHeap
  have n1:b≠s.heap.objs.size + 1:=Nat.ne_of_lt (Nat.lt_succ_of_lt hlt)
  have n2:b < G.objs.size:=by rw [hGs];exact Nat.lt_succ_of_lt (Nat.lt_succ_of_lt hlt)
  rw [Heap.get?_update_ne _ _ _ _ n1,Heap.get?_push_ne _ _ _ (by rw [size_push',Heap.size_update];exact Nat.ne_of_lt (Nat.lt_succ_of_lt n2)),Heap.get?_push_ne _ _ _ (by rw [Heap.size_update];exact Nat.ne_of_lt n2),Heap.get?_update_ne _ _ _ _ n1]
  exact keep b o q
theorem D0 {Q:Bool→Shared→Prop}:∀ (ns ms:List Int) {xs ys:List Value} (i:Nat),IntsAre xs ns→IntsAre ys ms→Q (Fm.bP ns ms) s→KatLex prog w A true (decide (xs.length < ys.length)) Q (xs.zip ys) i s:=by
  intro ns
  induction ns with
  | nil =>
    intro ms xs ys i hx hy h
    cases hx
    cases ms with
    | nil=>cases hy;exact h
    | cons m ms =>
      cases hy
      have h':Q true s:=h
      exact h'
  | cons n ns ih =>
    intro ms xs ys i hx hy h
    cases hx with
    | cons _ t r =>
      cases ms with
      | nil =>
        cases hy
        have h':Q false s:=h
        exact h'
      | cons m ms =>
        cases hy with
        | cons _ t' r' =>
          rename_i xs ys
          refine kat_cons (SeqAt.EqAt.int_int n t m t' prog w _ _ ?_)
          by_cases e:n=m
          · subst e
            rw [show (n == n)=true by simp]
            refine kat_yes ?_
            have h':Q (Fm.bP ns ms) s:=by simpa [Fm.bP] using h
            have:=ih ms (i + 1) r r' h'
            have e2:decide ((Value.int n t :: xs).length < (Value.int n t' :: ys).length)=decide (xs.length < ys.length):=by simp
            rw [e2]
            exact this
          · rw [show (n == m)=false by simpa using e]
            refine kat_no ?_
            have h':Q (decide (n < m)) s:=by simpa [Fm.bP,e] using h
            cases i with
            | zero=>exact oneLt_int h'
            | succ i =>
              have:(true && (i + 1 == 0))=false:=by simp
              rw [this]
              exact kat_one _ _ (lt_int (by first|exact⟨_,rfl,h'⟩|exact h'))
theorem D1 {cmp:Nat→Nat→(Bool→Shared→Prop)→Shared→Prop}{n:Nat}{Q:Nat→Shared→Prop}(hc:∀ m,1≤m→m < n → ∀ C:Bool→Shared→Prop,C false s→cmp m (m - 1) C s)(q:Q n s) :
    ∀ (f m:Nat),1≤m→m + f=n→(kas_asc (List.toArray (List.range n)) f m).kasWp cmp Q s
  | 0,m,_,e=>by
    have:m=n:=by omega
    subst this
    exact q
  | f + 1,m,h1,e=>by
    have g1:(List.toArray (List.range n)).getD m 0=m:=by simp [Array.getD,show m < n by omega]
    have g2:(List.toArray (List.range n)).getD (m - 1) 0=m - 1:=by simp [Array.getD,show m - 1 < n by omega]
    show cmp _ _ _ _
    rw [g1,g2]
    refine hc m h1 (by omega) _ ?_
    show KasT.kasWp cmp (if false=true then _ else _) Q s
    rw [if_neg Bool.false_ne_true]
    exact D1 hc q f (m + 1) (by omega) (by omega)
theorem wD {cmp:Nat→Nat→(Bool→Shared→Prop)→Shared→Prop}{n:Nat}{Q:Array Nat→Shared→Prop}(h2:2≤n)(hc:∀ m,1≤m→m < n → ∀ C:Bool→Shared→Prop,C false s→cmp m (m - 1) C s)(q:Q (List.toArray (List.range n)) s) :
    (kas_sort n).kasWp cmp Q s:=by
  unfold kas_sort
  rw [KasT.kasWp_bind]
  unfold kas_count
  rw [KasT.kasWp_bind]
  refine D1 hc ?_ (n - 1) 1 (Nat.le_refl _) (by omega)
  rw [if_pos (by simp)]
  show KasT.kasWp cmp (if n < n then _ else _) Q s
  rw [if_neg (Nat.lt_irrefl _)]
  exact q
end
theorem D2 {h:Heap}{a:Addr}{m m':Str→Option Value}(x:h.Ns a m)(y:h.Ns a m'):m=m':=by
  obtain⟨o,es,ep,ho,hd,_,r⟩:=x
  obtain⟨o',es',ep',ho',hd',_,r'⟩:=y
  rw [ho] at ho';cases ho'
  rw [hd] at hd';cases hd'
  funext z
  rw [← r z,← r' z]
theorem D3 {P:Program}{w:World}{H:Hp}{h:Heap}{a:Addr}{o:HO}(x:fR P w H h a o):∃ u,h.get? a=some u:=by
  cases o with
  | lst xs=>obtain⟨_,_,_,_,e⟩:=x;exact⟨_,e⟩
  | tup xs=>obtain⟨_,_,_,⟨_,e,_⟩,_⟩:=x;exact⟨_,e⟩
  | dK kvs=>obtain⟨_,_,_,_,_,_,_,e,_⟩:=x;exact⟨_,e⟩
  | dT kvs=>obtain⟨_,_,_,_,_,_,_,e,_⟩:=x;exact⟨_,e⟩
  | set S n=>obtain⟨_,_,_,_,e,_⟩:=x;exact⟨_,e⟩
  | ins C dx fs=>obtain⟨_,_,_,e,_⟩:=x;exact⟨_,e⟩
  | own y=>exact x
  | xd fs=>obtain⟨_,⟨_,_,_,e,_⟩,_⟩:=x;exact⟨_,e⟩
  | rng lo hi=>obtain⟨_,_,_,e⟩:=x;exact⟨_,e⟩
  | frz ob u=>exact⟨_,x.1⟩
  | tbl ps=>exact⟨_,x⟩
  | met f y=>exact⟨_,x⟩
  | ext φ => exact x.2.1
inductive dz (H:Hp):List V→List (List Int)→Prop
  | nil:dz H [] []
  | cons {a:Addr} {r:List Int} {vs:List V} {rs:List (List Int)}:H a=some (.tup (r.map V.int))→dz H vs rs→dz H (.ref a :: vs) (r :: rs)
theorem dz.get {H:Hp}:∀ {vs:List V} {rs:List (List Int)} {i:Nat} {v:V},dz H vs rs→vs[i]? = some v → ∃ a,v=.ref a∧H a=some (.tup ((rs.getD i []).map V.int))
  | _,_,_,_,.nil,e=>by simp at e
  | _,_,0,_,.cons h t,e=>by simp at e;subst e;exact⟨_,rfl,h⟩
  | _,_,i + 1,v,.cons h t,e=>by
    obtain⟨a,h1,h2⟩:=dz.get (i:=i) (v:=v) t (by simpa using e)
    exact⟨a,h1,by simpa using h2⟩
theorem dz.length {H:Hp}:∀ {vs:List V} {rs:List (List Int)},dz H vs rs→vs.length=rs.length
  | _,_,.nil=>rfl
  | _,_,.cons _ t=>by simp [dz.length t]
theorem wE:∀ {rs:List (List Int)} {m:Nat},tN rs=true→1≤m→m < rs.length→Fm.bP (rs.getD m []) (rs.getD (m - 1) [])=false
  | [],m,_,_,h=>by simp at h
  | [r],m,_,h1,h=>by simp at h;omega
  | a :: b :: r,m,h,h1,hl=>by
    simp only [tN,Bool.and_eq_true,Bool.not_eq_true'] at h
    cases m with
    | zero=>omega
    | succ m =>
      cases m with
      | zero=>simpa using h.1
      | succ m =>
        have:=wE (rs:=b :: r) (m:=m + 1) h.2 (by omega) (by simpa using hl)
        simpa using this
section
variable {X:Cx} {pos p:Pos}
def Kq (K:PySem.W.Frag):List V→Hp→VK→Prop:=fun xs H Q=>∃ (a:Addr) (vs:List V) (rs:List (List Int)),xs=[.ref a]∧SqL K H a vs∧vs.length < 64∧dz H vs rs∧tN rs=true∧(rs.all fun x => !x.isEmpty)=true ∧ ∀ q,H q=none→Q (.ref q) (upd H q (.lst vs))
theorem Gu {i:Int}{u:Value}(r:bS (.int i) u):∃ t,u=.int i t:=r
theorem oT {P:Program}{w:World}{H:Hp}{h h':Heap}(hok:HOk P w H h)(hk:∀ b o u,H b=some u→h.get? b=some o→h'.get? b=some o):∀ {vs:List V} {rs:List (List Int)} {its:List Value},dz H vs rs→aS vs its→(rs.all fun x => !x.isEmpty)=true →
    ∃ fs,KatTups h' its fs∧fs.length=its.length ∧ ∀ v∈fs,∃ i t,v=Value.int i t
  | _,_,_,.nil,.nil,_=>⟨[],.nil,rfl,fun v hv=>by simp at hv⟩
  | _,_,_,.cons (a:=a) (r:=r) ha t,.cons rv rt,hne=>by
    simp only [List.all_cons,Bool.and_eq_true,Bool.not_eq_true'] at hne
    obtain⟨fs,h1,h2,h3⟩:=oT hok hk t rt hne.2
    obtain⟨z,its0,r0,⟨o,ho,hc,n,hd⟩,_⟩:=hok a _ ha
    cases r with
    | nil=>simp at hne
    | cons i r =>
      cases r0 with
      | cons q0 qr =>
        rename_i u us
        obtain⟨tk,rfl⟩:=Gu q0
        cases rv
        refine⟨.int i tk :: fs,KatTups.cons (hk a o _ ha ho) hc hd (by simp) h1,by simp [h2],fun v hv => ?_⟩
        rcases List.mem_cons.mp hv with rfl|hv
        · exact⟨i,tk,rfl⟩
        · exact h3 v hv
theorem yI:fA X (.builtin "sorted") (Kq X.K):=by
  intro pins s σ H xs us Q I r h
  obtain⟨a,vs,rs,rfl,sq,h64,rv,asc,hne,q⟩:=h
  obtain⟨u,rfl,ru⟩:=aS.one r
  cases (show u=Value.ref a from ru)
  obtain⟨its,rvs,pl,hz⟩:=I.list sq
  have hl:s.heap.IsList a its.toArray:=pl.isList
  have hlen:its.length=vs.length:=rvs.length.symm
  by_cases h2:its.length < 2
  · refine kN hl h2 fun h' n hk ho => ?_
    exact⟨.ref (s.heap.objs.size + 1),_,I.laid (t':=s.toks) (o:=.lst vs) hk (Nat.le_succ _) ⟨hz,its,n,rvs,ho⟩,rfl,q _ (I.hok.fresh (Nat.le_succ _))⟩
  · obtain⟨m,hm,_⟩:=id I.loc
    have N0:News (Att.noObjs s.heap) X.env.locals s.heap (Att.ledger s.heap X.env.locals X.env.locals):=fun ⟨b,o⟩ hb=>by
      obtain⟨n1,n2,e⟩:=Att.mem_ledger.mp hb
      exact⟨e,n1,Att.noObjs_get _ _⟩
    refine kat_sorted (Att.fr_all hm) N0 hl (by omega) (by omega) fun D e1 h' F' N' lo => ?_
    have inN:∀ b o,b≠X.env.locals→s.heap.get? b=some o→(b,o)∈Att.ledger s.heap X.env.locals X.env.locals:=fun b o hb e=>Att.mem_ledger.mpr ⟨hb,hb,e⟩
    have keep':∀ b o,b≠X.env.locals→s.heap.get? b=some o→h'.get? b=some o:=fun b o hb e=>(N' (b,o) (List.mem_cons_of_mem _ (inN b o hb e))).1
    have nL:∀ b u,H b=some u→b≠X.env.locals:=fun b u e z=>by rw [z,I.free] at e;cases e
    obtain⟨fs,t1,t2,t3⟩:=oT I.hok (h':=h') (fun b o u hb e=>keep' b o (nL b u hb) e) rv rvs hne
    refine kat_kind (s:={ s with heap:=h' }) (T:=.type "int") t1 (by omega) (fun v hv => ?_) rfl ?_
    · obtain⟨i,t,rfl⟩:=t3 v hv
      exact Looks.of_pure rfl
    · have hT:(Value.type "int" != Value.type "tuple")=true:=by decide
      rw [hT]
      refine wD (by omega) (fun k h1 hk C hC => ?_) ?_
      · have cmp:∀ (i j:Nat),i < its.length→j < its.length → ∀ C:Bool→Shared→Prop,C (Fm.bP (rs.getD i []) (rs.getD j [])) { s with heap:=h' } → kas_ask X.prog X.w X.A.in1.in1 (tuples' true) its i j C { s with heap:=h' }:=fun i j hi hj C hC=>by
          unfold kas_ask
          have at':∀ i,i < its.length → ∃ b,its.getD i Value.none=.ref b ∧ ∃ (o:Obj) (zs:List Value) (n:Nat),h'.get? b=some o∧o.data=.seq zs.toArray n∧IntsAre zs (rs.getD i []):=fun i hi=>by
            have hv:vs[i]? = some (vs[i]'(by omega)):=by simp [show i < vs.length by omega]
            obtain⟨b,e1,e2⟩:=rv.get hv
            obtain⟨u,hu,ru⟩:=rvs.get hv
            rw [e1] at ru
            cases (show u=Value.ref b from ru)
            obtain⟨z,zs,r0,⟨o,ho,hc,n,hd⟩,_⟩:=I.hok b _ e2
            exact⟨b,by simp [List.getD,hu],o,zs,n,keep' b o (nL b _ e2) ho,hd,kf r0⟩
          obtain⟨b1,x1,o1,z1,n1,y1,d1,i1⟩:=at' i hi
          obtain⟨b2,x2,o2,z2,n2,y2,d2,i2⟩:=at' j hj
          rw [x1,x2]
          refine kat_lt (s:={ s with heap:=h' }) y1 d1 y2 d2 ?_
          have:=D0 (prog:=X.prog) (w:=X.w) (A:=X.A.in1.in1) (s:={ s with heap:=h' }) (Q:=C) (rs.getD i []) (rs.getD j []) 0 i1 i2 hC
          simpa using this
        refine cmp k (k - 1) hk (by omega) C ?_
        rw [wE asc h1 (by rw [← rv.length];omega)]
        exact hC
      · have eo:((List.toArray (List.range its.length)).toList.map fun i=>its.getD i Value.none)=its:=by
          apply List.ext_getElem
          · simp
          · intro i h1 h2
            simp [List.getD,h2]
        rw [eo]
        have hDn:∀ q∈Att.ledger s.heap X.env.locals X.env.locals,q.1≠D:=fun q hq=>Nat.ne_of_lt (lo q hq)
        refine KasFin.intro F' N' (UpdF.head hDn) fun h2 c F2 N2 => ?_
        have DL:D≠X.env.locals:=(N' (D,_) (List.mem_cons_self ..)).2.1
        have hD2:h2.get? D=some (PySem.W.listOf its.toArray c):=(N2 (D,_) (List.mem_cons_self ..)).1
        have keep2:∀ b o,b≠X.env.locals→s.heap.get? b=some o→h2.get? b=some o:=fun b o hb e=>(N2 (b,o) (List.mem_cons_of_mem _ (inN b o hb e))).1
        have bD:∀ b o,s.heap.get? b=some o→b≠D:=fun b o e=>by
          by_cases hb:b=X.env.locals
          · rw [hb];exact Ne.symm DL
          · exact hDn (b,o) (inN b o hb e)
        have HD:H D=none:=by
          cases e:H D with
          | none=>rfl
          | some u =>
            have lt:=I.hok.lt e
            have:∃ o,s.heap.get? D=some o:=by
              have ok:=I.hok D u e
              exact D3 ok
            obtain⟨o,ho⟩:=this
            exact absurd rfl (bD D o ho)
        refine⟨.ref D,upd H D (.lst vs),?_,rfl,q D HD⟩
        suffices I2:L2.Inv X pins σ (upd H D (.lst vs)) { s with heap:=h2,gens:=s.gens,drawn:=s.drawn,toks:=s.toks } from I2
        refine I.step (g':=s.gens) (d':=s.drawn) (t':=s.toks) (ch:=[]) (fun _ z=>nomatch z) (fun b o hb _ _ e _=>keep2 b o hb e) (fun b o hb _ _ e _=>⟨o.slots,keep2 b o hb e⟩) (fun b o _ e n=>by rw [aB (bD b o e)];exact n) (fun b o _ e => ?_)
          (fun b ys e=>by rw [aB (aC e HD)];exact e) (fun b o u e=>by rw [aB (aC e HD)];exact e) (fun b ps e=>⟨#[],by rw [aB (aC e HD),e];simp⟩) (fun m' hm'=>by rw [D2 hm' hm];exact F2.ns) (fun b u e => ?_) I.bare
        · by_cases hb:b=X.env.locals
          · obtain⟨o',_,_,ho',_⟩:=F2.ns
            rw [hb];exact⟨o',ho'⟩
          · exact⟨o,keep2 b o hb e⟩
        · by_cases hb:b=D
          · subst hb
            rw [bi] at e
            cases e
            exact⟨hz,its,c,rvs,hD2⟩
          · rw [aB hb] at e
            refine (I.hok b u e).stay (fun c v hc z => ?_) (fun c z=>by rw [aB (aC z HD)];exact z) fun c ys z=>by rw [aB (aC z HD)];exact z
            rcases hc with w|w
            · subst w;exact keep2 c v (nL c _ e) z
            · exact keep2 c v (nL c _ w) z
theorem oU {K:PySem.W.Frag}{ρ:List Addr}{H:Hp}:∀ {l:List D} {vs:List V} {rs:List (List Int)},RDs K ρ H l vs→nT l=some rs→dz H vs rs
  | [],_,_,r,e=>by simp only [nT] at e;cases e;simp only [RDs] at r;subst r;exact .nil
  | d :: l,_,rs,r,e=>by
    simp only [RDs] at r
    obtain⟨v,vs,rfl,h1,h2⟩:=r
    cases d<;>simp only [nT] at e<;>try (cases e;done)
    rename_i l1
    cases c1:eA l1 with
    | none=>rw [c1] at e;cases e
    | some is =>
      cases c2:nT l with
      | none=>rw [c1,c2] at e;cases e
      | some r2 =>
        rw [c1,c2] at e
        cases e
        simp only [RD] at h1
        obtain⟨p,ws,rfl,hp,rws⟩:=h1
        have:=kK rws c1
        subst this
        exact .cons hp (oU h2 c2)
theorem D4 {a:Expr} {fa:EF} (hg:Gl X "sorted") (hm:X.mg "sorted" = none) (ha:ME X a fa) (hs:starEach [a] X.env=(false,eval a X.env) :: starEach [] X.env:=by rfl):MF X (.Call (.Name "sorted" p) [a] [] pos) (lJ fa):=by
  refine PE.imp (gM yI hg hm (by decide +kernel) (bX ha df hs) (he:=hs)) fun σ H Q ⟨ρ,σd,hd,rs,pp⟩=>⟨ρ,σd,hd,rs,?_⟩
  unfold lJ at pp
  cases e:fa σd hd with
  | exc x h'=>rw [e] at pp;exact pp
  | bad=>rw [e] at pp;exact pp
  | ok d hd1 =>
    rw [e] at pp
    simp only [aI] at pp
    intro v H1 ρ1 e1 rs1 rv
    cases c:cI hd1 d with
    | none=>rw [c] at pp;exact pp.elim
    | some l =>
      rw [c] at pp
      simp only at pp
      cases c2:n9 l with
      | none=>rw [c2] at pp;exact pp.elim
      | some l' =>
        rw [c2] at pp
        simp only [n9] at c2
        cases c3:nT l with
        | none=>rw [c3] at c2;cases c2
        | some r =>
          rw [c3] at c2
          simp only at c2
          split at c2
          · rename_i hc
            cases c2
            obtain⟨q,vs,rfl,sq,rvs⟩:=ip rs1.hp rv c
            exact⟨q,vs,r,rfl,sq,by rw [← rvs.length];exact hc.1,oU rvs c3,hc.2.1,hc.2.2,pp.mk e1 rs1 rvs⟩
          · cases c2
end
end Fm
set_option Elab.async false
set_option linter.all false
set_option maxRecDepth 100000
namespace Fm
open PySem PySem.Spec L2
section
variable {X:Cx}
theorem mv (i:Nat) {x:Str} {pos:Pos} (hN:X.N[i]? = some x:=by rfl) (hv:Vis X.env.scope x:=by first|exact Or.inl rfl|exact Or.inr (Or.inl rfl)|exact Or.inr (Or.inr rfl)) (hd:(x == ("__debug__" : Str))=false:=by decide)
    (hcd:(x == ("__classdict__" : Str))=false:=by decide):ME X (.Name x pos) (aa i):=IR hN hv hd hcd
end
theorem dB {k:Nat}{A:Around}(r:ie k A):A.units + 24 < cLine:=by have:=r.un;omega
def aK (X:Cx):List (Str × NameKind)→Prop
  | []=>True
  | y :: r=>(y.2=.free→X.env.kindOf y.1=some .cell∨X.env.kindOf y.1=some .free)∧aK X r
def bp (X:Cx) (scope:Scope):List Str→List Nat→Prop
  | [],[]=>True
  | x :: xs,i :: is=>(X.N[i]? = some x∧scope.names.lookup x=some .free)∧bp X scope xs is
  | _,_=>False
theorem aK.get {X:Cx}:∀ {l:List (Str × NameKind)},aK X l → ∀ y∈l,y.2=.free→X.env.kindOf y.1=some .cell∨X.env.kindOf y.1=some .free
  | [],_,y,hy=>by simp at hy
  | z :: r,h,y,hy=>by
    rcases List.mem_cons.mp hy with rfl|hy
    · exact h.1
    · exact aK.get h.2 y hy
theorem bp.get {X:Cx}{scope:Scope}:∀ {capn:List Str} {caps:List Nat},bp X scope capn caps→(∀ (j:Nat) x,capn[j]? = some x → ∃ i,caps[j]? = some i∧X.N[i]? = some x∧scope.names.lookup x=some .free)∧capn.length=caps.length
  | [],[],_=>⟨fun j x e=>by simp at e,rfl⟩
  | x :: xs,i :: is,h=>by
    obtain⟨h1,h2⟩:=bp.get h.2
    refine⟨fun j y e => ?_,by simp [h2]⟩
    cases j with
    | zero=>simp at e;subst e;exact⟨i,rfl,h.1⟩
    | succ j=>exact h1 j y (by simpa using e)
  | [],_ :: _,h=>h.elim
  | _ :: _,[],h=>h.elim
theorem aK.nil {X:Cx}:aK X []:=trivial
theorem aK.cons {X:Cx}{y:Str × NameKind}{r:List (Str × NameKind)}(h:y.2=.free→X.env.kindOf y.1=some .cell∨X.env.kindOf y.1=some .free)(t:aK X r):aK X (y :: r):=⟨h,t⟩
theorem bp.nil {X:Cx}{scope:Scope}:bp X scope [] []:=trivial
theorem bp.cons {X:Cx}{scope:Scope}{x:Str}{xs:List Str}{i:Nat}{is:List Nat}(h1:X.N[i]? = some x)(h2:scope.names.lookup x=some .free)(t:bp X scope xs is):bp X scope (x :: xs) (i :: is):=⟨⟨h1,h2⟩,t⟩
theorem bI.mk' {X:Cx}{scope:Scope}{own capn:List Str}{caps:List Nat}(k:scope.kind=.function)(c:∀ y∈scope.names,y.2 ≠ .cell)(n:∀ y∈scope.names,y.2=.local→scope.names.lookup y.1=some .local)(f:aK X scope.names)(cp:bp X scope capn caps):bI X scope own capn caps :=
  ⟨k,c,n,f.get,cp.get.1,cp.get.2⟩
end Fm
set_option Elab.async false
set_option linter.all false
set_option maxRecDepth 100000
namespace Fm
open PySem PySem.Spec L2
section
variable {K:PySem.W.Frag} {ρ:List Addr} {H:Hp}
theorem kO {d:D}{v:V}(h:RD K ρ H d v)(f:bY d=true):fU v=true:=by
  cases d<;>simp only [RD] at h<;>first|(subst h;rfl)|(simp [bY] at f)
theorem eqS {x y:List Nat}:(x == y)=(toS x == toS y):=by
  by_cases z:x=y
  · subst z;rw [beq_self_eq_true,beq_self_eq_true]
  · have : ¬ toS x=toS y:=fun q=>z (by have:=congrArg (fun (s:Str)=>s.cps.toList) q;simpa [toS] using this)
    rw [beq_eq_false_iff_ne.mpr z,beq_eq_false_iff_ne.mpr this]
theorem A8 {d k:D}{v w:V}(h:RD K ρ H d v)(g:RD K ρ H k w)(f:bY d=true)(f2:bY k=true):eqF d k=eqV v w:=by
  cases d with
  | non=>simp only [RD] at h;subst h;cases k<;>simp only [RD] at g<;>first|(subst g;rfl)|(simp [bY] at f2)
  | bl a=>simp only [RD] at h;subst h;cases k<;>simp only [RD] at g<;>first|(subst g;rfl)|(simp [bY] at f2)
  | int a=>simp only [RD] at h;subst h;cases k<;>simp only [RD] at g<;>first|(subst g;rfl)|(simp [bY] at f2)
  | str a=>simp only [RD] at h;subst h;cases k<;>simp only [RD] at g<;>first|(subst g;rfl)|(subst g;exact eqS)|(simp [bY] at f2)
  | tup l=>simp [bY] at f
  | ref n=>simp [bY] at f
  | lit l=>simp [bY] at f
  | exn c l=>simp [bY] at f
theorem jL:∀ {l:List D} {vs:List V},RDs K ρ H l vs→l.all bY=true→vs.all fU=true
  | [],_,h,_=>by simp only [RDs] at h;subst h;rfl
  | d :: l,_,h,f=>by
    simp only [RDs] at h
    obtain⟨v,r,rfl,h1,h2⟩:=h
    simp only [List.all_cons,Bool.and_eq_true] at f ⊢
    exact⟨kO h1 f.1,jL h2 f.2⟩
theorem A9 {k:D}{w:V}(g:RD K ρ H k w)(fk:bY k=true):∀ {l:List D} {vs:List V},RDs K ρ H l vs→l.all bY=true→(l.any fun z=>eqF z k)=vs.any fun z=>eqV z w
  | [],_,h,_=>by simp only [RDs] at h;subst h;rfl
  | d :: l,_,h,f=>by
    simp only [RDs] at h
    obtain⟨v,r,rfl,h1,h2⟩:=h
    simp only [List.all_cons,Bool.and_eq_true] at f
    rw [List.any_cons,List.any_cons,A8 h1 g f.1 fk,A9 g fk h2 f.2]
theorem lM {k:D}{w:V}(g:RD K ρ H k w)(fk:bY k=true):∀ {l:List D} {vs:List V},RDs K ρ H l vs→l.all bY=true→(l.countP fun z=>eqF z k)=vs.countP fun z=>eqV z w
  | [],_,h,_=>by simp only [RDs] at h;subst h;rfl
  | d :: l,_,h,f=>by
    simp only [RDs] at h
    obtain⟨v,r,rfl,h1,h2⟩:=h
    simp only [List.all_cons,Bool.and_eq_true] at f
    rw [List.countP_cons,List.countP_cons,A8 h1 g f.1 fk,lM g fk h2 f.2]
end
section
variable {X:Cx} {pos:Pos}
theorem Ba {K:PySem.W.Frag}{neg:Bool}{ρ:List Addr}{H:Hp}{σd:Sd}{hd:Hd}{σ:St}{d k:D}{v w:V}{Q:VK}{b:Bool}(rs:RS K ρ H σd hd σ)(rv:RD K ρ H d v)(rw':RD K ρ H k w)(e:inL hd d k=some b)
    (q:Q (.bl (if neg then !b else b)) H):rIn K neg v w H Q:=by
  simp only [inL] at e
  cases c:fW hd k with
  | none=>rw [c] at e;cases e
  | some l =>
    rw [c] at e
    simp only at e
    split at e
    · rename_i hf
      cases e
      rw [Bool.and_eq_true] at hf
      obtain⟨p,vs,rfl,sq,rvs⟩:=tS rs.hp rw' c
      refine⟨p,vs,rfl,sq.imp id SqT.of,kO rv hf.1,jL rvs hf.2,?_⟩
      unfold inV
      rw [← A9 rv hf.1 rvs hf.2]
      exact q
    · cases e
theorem Bc {K:PySem.W.Frag}:Og K oIn (rIn K false):=by
  intro ρ H σd hd σ d k v w Q rs rv rw' p
  unfold oIn at p
  cases e:inL hd d k with
  | none=>rw [e] at p;exact p.elim
  | some b=>rw [e] at p;exact Ba rs rv rw' e (p.here rs (by simp only [rD,RD];rfl))
theorem D5 {K:PySem.W.Frag}:Og K lI (rIn K true):=by
  intro ρ H σd hd σ d k v w Q rs rv rw' p
  unfold lI at p
  cases e:inL hd d k with
  | none=>rw [e] at p;exact p.elim
  | some b=>rw [e] at p;exact Ba rs rv rw' e (p.here rs (by simp only [rD,RD];rfl))
theorem eQ {i:Int}{j:Nat}{p2:Pos}:ME X (.UnaryOp .USub (.Constant (.int i) j p2) pos) (fC (.int (-i))) :=
  PE.imp (J1 IA Dp) fun σ H Q ⟨ρ,σd,hd,rs,p⟩=>⟨i,rfl,p.here rs (by simp only [rD,RD])⟩
def Jf (K:PySem.W.Frag):V→List V→Hp→VK→Prop:=fun x vs H Q=>∃ l xs y,x=.ref l∧vs=[y]∧SqL K H l xs∧fU y=true∧xs.all fU=true∧Q (.int (xs.countP fun z=>eqV z y)) H
theorem yJ {x:V}:∀ {xs:List V} {us:List Value},aS xs us→xs.all fU=true→us.countP (eqU x)=xs.countP fun y=>eqV y x
  | _,_,.nil,_=>rfl
  | y :: xs,u :: us,.cons r t,f=>by
    rw [List.all_cons,Bool.and_eq_true] at f
    rw [List.countP_cons,List.countP_cons,yC r f.1,yJ t f.2]
theorem D6:MtM X "list.count" (Jf X.K):=by
  intro pins s σ H x vs v us Q I rx rv h
  obtain⟨l,xs,y,rfl,rfl,sq,fy,fs,q⟩:=h
  cases rx
  obtain⟨u,rfl,ru⟩:=rv.one
  obtain⟨its,r,pl,hz⟩:=I.list sq
  obtain⟨o,ho,hc,n,hd⟩:=pl.isList
  obtain⟨c,dd,dt,sl⟩:=o
  replace hc:c=.type "list" := hc
  replace hd:dt=.seq its.toArray n:=hd
  subst hc hd
  refine call_meets F.slot_list_count ⟨_,ho,rfl⟩ F.entry_list_count (F.args_list_count_2 _ _) (SeqAt.list_countAt l its.toArray n dd sl u (eqU y)) ⟨ho,fun w hw=>fV ru fy r fs w (by simpa using hw),?_⟩
  refine⟨.int _,H,I.tok _,⟨_,rfl⟩,?_⟩
  rw [show (its.toArray.toList.countP (eqU y))=xs.countP fun z=>eqV z y from yJ r fs]
  exact q
theorem wF {o e:Expr} {fo fe:EF} {apos cpos:Pos} (ho:ME X o fo) (he:ME X e fe) (hbase:attributeBase o "count" X.env (eval o X.env)=eval o X.env:=by rfl)
    (hfew:((backTo cpos (starEach [e] X.env)).all (fun x => !x.1) && (backToKw cpos (keywordEach [] X.env)).all (fun x=>x.1.isSome)
      && decide (([e] : List Expr).length + ([] : List Keyword).length + (if ([] : List Keyword).isEmpty then 0 else 1) < 30))=true:=by rfl)
    (hline:(apos.endLine == cpos.line)=true:=by rfl) (hs:starEach [e] X.env=(false,eval e X.env) :: starEach [] X.env:=by rfl) :
    ME X (.Call (.Attribute o "count" apos) [e] [] cpos) (eC fo fe):=by
  refine PE.imp (HM PySem.F.plainAttrs_list PySem.F.slot_list_count PySem.F.type_list_count D6 ho (bX he df hs) hbase hfew hline hs) fun σ H Q ⟨ρ,σd,hd,rs,pp⟩=>⟨ρ,σd,hd,rs,?_⟩
  unfold eC at pp
  refine (bw.bind (R:=rD X.K) pp).imp fun v H1 ⟨ρ1,d,hd1,e1,rs1,rv,p1⟩ => ?_
  cases c1:cI hd1 d with
  | none=>simp only [c1] at p1;exact p1.elim
  | some l1 =>
    simp only [c1] at p1
    obtain⟨q,vs,hv,sq,rvs⟩:=ip rs1.hp rv c1
    subst hv
    refine⟨.inl ⟨rfl,vs,sq⟩,ρ1,σd,hd1,rs1,(bw.bind (R:=rD X.K) p1).imp fun w H2 ⟨ρ2,k,hd2,e2,rs2,rw',p2⟩ => ?_⟩
    cases c2:cI hd2 d with
    | none=>simp only [c2] at p2;exact p2.elim
    | some l =>
      simp only [c2] at p2
      split at p2
      · rename_i hf
        rw [Bool.and_eq_true] at hf
        obtain⟨q',vs',hv',sq',rvs'⟩:=ip rs2.hp (rv.mono (rs1.hp.kp e2)) c2
        refine⟨q',vs',w,hv',rfl,sq',kO rw' hf.1,jL rvs' hf.2,?_⟩
        rw [← lM rw' hf.1 rvs' hf.2]
        exact p2.here rs2 (by simp only [rD,RD])
      · exact p2.elim
end
end Fm
set_option Elab.async false
set_option linter.all false
set_option maxRecDepth 100000
namespace Fm
open PySem PySem.Spec L2 PySem.W PyProof.Rows
theorem Jg {l r:Nat}(h:l < r):l≤(l + r) / 2∧(l + r) / 2 < r:=by omega
section
variable {cmp:Nat→Nat→(Bool→Shared→Prop)→Shared→Prop} {n:Nat} {s:Shared} {lt:Nat→Nat→Bool}
structure Ord (lt:Nat→Nat→Bool) (n:Nat):Prop where
  asy:∀ i j,i < n→j < n→lt i j=true→lt j i=false
  tr:∀ i j k,i < n→j < n→k < n→lt i j=true→lt j k=true→lt i k=true
  tot:∀ i j,i < n→j < n→i≠j→lt i j=false→lt j i=true
structure Gd (n:Nat) (p:Array Nat):Prop where
  sz:p.size=n
  pm:p.Perm (List.toArray (List.range n))
theorem Gd.below (g:Gd n p){i:Nat}(hi:i < n):p.getD i 0 < n:=by
  have h1:i < p.size:=by rw [g.sz];exact hi
  have e:p.getD i 0=p[i]:=by simp [Array.getD,h1]
  rw [e]
  have m:p[i]∈p.toList:=by simp
  have:=(Array.perm_iff_toList_perm.mp g.pm).mem_iff.mp m
  simpa using this
theorem Gd.ne (g:Gd n p){i j:Nat}(hi:i < n)(hj:j < n)(h:i≠j):p.getD i 0≠p.getD j 0:=by
  have h1:i < p.size:=by rw [g.sz];exact hi
  have h2:j < p.size:=by rw [g.sz];exact hj
  have e:p.getD i 0=p[i]:=by simp [Array.getD,h1]
  have e':p.getD j 0=p[j]:=by simp [Array.getD,h2]
  rw [e,e']
  have nd:p.toList.Nodup:=(Array.perm_iff_toList_perm.mp g.pm).nodup_iff.mpr (by simpa using List.nodup_range)
  intro z
  have:=(List.getElem_inj (xs:=p.toList) nd (i:=i) (j:=j) (h₀ := by simpa using h1) (h₁ := by simpa using h2)).mp (by simpa using z)
  exact h this
def Srt (lt:Nat→Nat→Bool) (p:Array Nat) (m:Nat):Prop:=∀ i j,i < j→j < m→lt (p.getD i 0) (p.getD j 0)=true
def Dsc (lt:Nat→Nat→Bool) (p:Array Nat) (m:Nat):Prop:=∀ i j,i < j→j < m→lt (p.getD j 0) (p.getD i 0)=true
theorem f7:Gd n (List.toArray (List.range n)):=⟨by simp,Array.Perm.refl _⟩
theorem Srt.next {p:Array Nat}{m:Nat}(O:Ord lt n)(g:Gd n p)(h:Srt lt p m)(h1:1≤m)(hm:m < n)(c:lt (p.getD (m - 1) 0) (p.getD m 0)=true):Srt lt p (m + 1):=by
  intro i j hij hj
  by_cases e:j < m
  · exact h i j hij e
  · have:j=m:=by omega
    subst this
    by_cases e2:i=j - 1
    · subst e2;exact c
    · exact O.tr _ _ _ (g.below (by omega)) (g.below (by omega)) (g.below hm) (h i (j - 1) (by omega) (by omega)) c
theorem Dsc.next {p:Array Nat}{m:Nat}(O:Ord lt n)(g:Gd n p)(h:Dsc lt p m)(h1:1≤m)(hm:m < n)(c:lt (p.getD m 0) (p.getD (m - 1) 0)=true):Dsc lt p (m + 1):=by
  intro i j hij hj
  by_cases e:j < m
  · exact h i j hij e
  · have:j=m:=by omega
    subst this
    by_cases e2:i=j - 1
    · subst e2;exact c
    · exact O.tr _ _ _ (g.below hm) (g.below (by omega)) (g.below (by omega)) c (h i (j - 1) (by omega) (by omega))
variable (O:Ord lt n) (hc:∀ i j,i < n→j < n → ∀ C:Bool→Shared→Prop,C (lt i j) s→cmp i j C s)
include O hc
theorem kj {p:Array Nat}(g:Gd n p){Q:Nat→Shared→Prop}(q:∀ m,1≤m→m≤n→Srt lt p m→(m < n→lt (p.getD m 0) (p.getD (m - 1) 0)=true)→Q m s) :
    ∀ (f m:Nat),1≤m→m + f=n→Srt lt p m→(kas_asc p f m).kasWp cmp Q s
  | 0,m,h1,e,h=>q m h1 (by omega) h fun z=>by omega
  | f + 1,m,h1,e,h=>by
    refine hc _ _ (g.below (by omega)) (g.below (by omega)) _ ?_
    cases c:lt (p.getD m 0) (p.getD (m - 1) 0) with
    | true=>((try dsimp only);(try rw [if_pos rfl]));exact q m h1 (by omega) h fun _=>c
    | false =>
      ((try dsimp only);(try rw [if_neg Bool.false_ne_true]))
      have c':=O.tot _ _ (g.below (by omega)) (g.below (by omega)) (g.ne (i:=m) (j:=m - 1) (by omega) (by omega) (by omega)) c
      exact kj g q f (m + 1) (by omega) (by omega) (h.next O g h1 (by omega) c')
theorem ng {p:Array Nat}(g:Gd n p){Q:Array Nat × Nat × Nat→Shared→Prop}(q:∀ m,1≤m→m≤n→Dsc lt p m→Q (p,m,0) s) :
    ∀ (f m:Nat),1≤m→m + f=n→Dsc lt p m→(kas_desc f p m 0).kasWp cmp Q s
  | 0,m,h1,e,h=>q m h1 (by omega) h
  | f + 1,m,h1,e,h=>by
    refine hc _ _ (g.below (by omega)) (g.below (by omega)) _ ?_
    cases c:lt (p.getD m 0) (p.getD (m - 1) 0) with
    | true =>
      ((try dsimp only);(try rw [if_pos rfl]));(try rw [if_neg (by omega)])
      exact ng g q f (m + 1) (by omega) (by omega) (h.next O g h1 (by omega) c)
    | false =>
      ((try dsimp only);(try rw [if_neg Bool.false_ne_true]))
      have c':=O.tot _ _ (g.below (by omega)) (g.below (by omega)) (g.ne (i:=m) (j:=m - 1) (by omega) (by omega) (by omega)) c
      refine hc _ _ (g.below (by omega)) (g.below (by omega)) _ ?_
      rw [c'];((try dsimp only);(try rw [if_pos rfl]))
      exact q m h1 (by omega) h
omit hc in
theorem Jh {p:Array Nat}(g:Gd n p){m:Nat}(hm:m≤n)(h:Dsc lt p m):Gd n (kas_rev p 0 m)∧Srt lt (kas_rev p 0 m) m:=by
  have at':∀ k,k < m→(kas_rev p 0 m).getD k 0=p.getD (m - 1 - k) 0:=fun k hk=>by
    have e:=getElem?_mirror_all (xs:=p) (i:=0) (j:=m) (by rw [g.sz];exact hm) k
    rw [if_pos ⟨Nat.zero_le _,hk⟩] at e
    unfold kas_rev
    rw [Array.getD_eq_getD_getElem?,Array.getD_eq_getD_getElem?,e,Nat.zero_add]
  refine⟨⟨by unfold kas_rev;rw [mirror_size,g.sz],(mirror_perm _ _ _ _).trans g.pm⟩,fun i j hij hj => ?_⟩
  rw [at' i (by omega),at' j hj]
  exact h _ _ (by omega) (by omega)
theorem tZ (h2:2≤n){Q:Nat × Array Nat→Shared→Prop}(q:∀ m p,Gd n p→1≤m→m≤n→Srt lt p m→Q (m,p) s):(kas_count n (List.toArray (List.range n))).kasWp cmp Q s:=by
  unfold kas_count
  rw [KasT.kasWp_bind]
  refine kj O hc f7 (fun m h1 hm hs hd => ?_) (n - 1) 1 (Nat.le_refl _) (by omega) (fun i j hij hj=>by omega)
  by_cases e:m=n
  · subst e
    rw [if_pos (by simp)]
    exact q m _ f7 h1 (Nat.le_refl _) hs
  · rw [if_neg (by simpa using e)]
    by_cases e1:m > 1
    · rw [if_pos e1]
      refine hc _ _ (f7.below (by omega)) (f7.below (by omega)) _ ?_
      have:=hs 0 (m - 1) (by omega) (by omega)
      rw [this];((try dsimp only);(try rw [if_pos rfl]))
      exact q m _ f7 h1 hm hs
    · rw [if_neg e1]
      have:m=1:=by omega
      subst this
      have c:=hd (by omega)
      unfold kas_descPart
      rw [KasT.kasWp_bind]
      refine ng O hc f7 (fun m h1 hm hs => ?_) (n - 2) 2 (by omega) (by omega) (fun i j hij hj => ?_)
      · rw [if_neg (by simp)]
        unfold kas_tail3
        rw [KasT.kasWp_bind]
        obtain⟨g',s'⟩:=Jh O f7 hm hs
        exact kj O hc g' (fun m' h1' hm' hs' _=>q m' _ g' h1' hm' hs') (n - m) m h1 (by omega) s'
      · have hi:i=0:=by omega
        have hj:j=1:=by omega
        subst hi hj
        exact c
theorem ir {p:Array Nat}(g:Gd n p){k:Nat}(hk:k < n)(hs:Srt lt p k){Q:Nat→Shared→Prop}(q:∀ l,l≤k→(∀ i,i < l→lt (p.getD i 0) (p.getD k 0)=true)→(∀ i,l≤i→i < k→lt (p.getD k 0) (p.getD i 0)=true)→Q l s) :
    ∀ (f l r:Nat),r - l≤f→l≤r→r≤k→(∀ i,i < l→lt (p.getD i 0) (p.getD k 0)=true)→(∀ i,r≤i→i < k→lt (p.getD k 0) (p.getD i 0)=true)→(kas_place p k f l r).kasWp cmp Q s
  | 0,l,r,hf,hl,hr,a,b=>q l (Nat.le_trans hl hr) a fun i h1 h2=>b i (Nat.le_trans (Nat.le_of_sub_eq_zero (Nat.le_zero.mp hf)) h1) h2
  | f + 1,l,r,hf,hl,hr,a,b=>by
    unfold kas_place
    by_cases e:l ≥ r
    · rw [if_pos e]
      exact q l (Nat.le_trans hl hr) a fun i h1 h2=>b i (Nat.le_trans e h1) h2
    · rw [if_neg e]
      have lr:l < r:=Nat.not_le.mp e
      have hh:=Jg lr
      generalize (l + r) / 2=M at hh
      have hm:M < k:=Nat.lt_of_lt_of_le hh.2 hr
      have hMn:M < n:=Nat.lt_trans hm hk
      refine hc _ _ (g.below hk) (g.below hMn) _ ?_
      cases c:lt (p.getD k 0) (p.getD M 0) with
      | true =>
        ((try dsimp only);(try rw [if_pos rfl]))
        refine ir g hk hs q f l M (Nat.le_of_lt_succ (Nat.lt_of_lt_of_le (Nat.sub_lt_sub_right hh.1 hh.2) hf)) hh.1 (Nat.le_of_lt hm) a fun i h1 h2 => ?_
        by_cases z:i=M
        · subst z;exact c
        · exact O.tr _ _ _ (g.below hk) (g.below hMn) (g.below (Nat.lt_trans h2 hk)) c (hs _ i (Nat.lt_of_le_of_ne h1 (Ne.symm z)) h2)
      | false =>
        ((try dsimp only);(try rw [if_neg Bool.false_ne_true]))
        have c':=O.tot _ _ (g.below hk) (g.below hMn) (g.ne (i:=k) (j:=M) hk hMn (Nat.ne_of_gt hm)) c
        refine ir g hk hs q f (M + 1) r (Nat.le_of_lt_succ (Nat.lt_of_lt_of_le (Nat.sub_lt_sub_left lr (Nat.lt_succ_of_le hh.1)) hf)) hh.2 hr (fun i h1 => ?_) b
        by_cases z:i=M
        · subst z;exact c'
        · have hi:i < M:=Nat.lt_of_le_of_ne (Nat.le_of_lt_succ h1) z
          exact O.tr _ _ _ (g.below (Nat.lt_trans hi hMn)) (g.below hMn) (g.below hk) (hs i _ hi hm) c'
theorem oV {Q:Array Nat→Shared→Prop}(q:∀ p,Gd n p→Srt lt p n→Q p s):∀ (f:Nat) (p:Array Nat) (k:Nat),Gd n p→k + f=n→Srt lt p k→(kas_bin f p k).kasWp cmp Q s
  | 0,p,k,g,e,h=>by
    have:k=n:=e
    subst this
    exact q p g h
  | f + 1,p,k,g,e,h=>by
    unfold kas_bin
    rw [KasT.kasWp_bind]
    have hk:k < n:=e ▸ Nat.lt_add_of_pos_right (Nat.succ_pos f)
    refine ir O hc g hk h (fun l hl a b => ?_) k 0 k (Nat.le_refl _) (Nat.zero_le _) (Nat.le_refl _) (fun i z=>absurd z (Nat.not_lt_zero _)) (fun i z z'=>absurd z' (Nat.not_lt.mpr z))
    have hks:k < p.size:=by rw [g.sz];exact hk
    have at':∀ i,(bubble p k (k - l)).getD i 0=if i=l then p.getD k 0 else if l < i∧i≤k then p.getD (i - 1) 0 else p.getD i 0:=fun i=>by
      have:=getElem?_bubble hks (k - l) (Nat.sub_le _ _) i
      rw [Nat.sub_sub_self hl] at this
      simp only [Array.getD_eq_getD_getElem?]
      rw [this]
      by_cases c1:i=l
      · rw [if_pos c1,if_pos c1]
      · rw [if_neg c1,if_neg c1]
        by_cases c2:l < i∧i≤k
        · rw [if_pos c2,if_pos c2]
        · rw [if_neg c2,if_neg c2]
    refine oV q f _ (k + 1) ⟨by rw [bubble_size,g.sz],(bubble_perm _ _ _).trans g.pm⟩ (by rw [Nat.add_right_comm];exact e) fun i j hij hj => ?_
    have jk:j≤k:=Nat.le_of_lt_succ hj
    have j1:j - 1 < k:=Nat.sub_one_lt_of_le (Nat.zero_lt_of_lt hij) jk
    rw [at' i,at' j]
    by_cases c1:i=l
    · have lj:l < j:=c1 ▸ hij
      rw [if_pos c1,if_neg (Nat.ne_of_gt lj),if_pos ⟨lj,jk⟩]
      exact b _ (Nat.le_sub_one_of_lt lj) j1
    · rw [if_neg c1]
      by_cases c2:l < i∧i≤k
      · have lj:l < j:=Nat.lt_trans c2.1 hij
        rw [if_pos c2,if_neg (Nat.ne_of_gt lj),if_pos ⟨lj,jk⟩]
        exact h _ _ (Nat.sub_lt_sub_right (Nat.zero_lt_of_lt c2.1) hij) j1
      · rw [if_neg c2]
        have il:i < l:=Nat.lt_of_le_of_ne (Nat.not_lt.mp fun z=>c2 ⟨z,Nat.le_trans (Nat.le_of_lt hij) jk⟩) c1
        by_cases c3:j=l
        · rw [if_pos c3];exact a _ il
        · rw [if_neg c3]
          by_cases c4:l < j∧j≤k
          · rw [if_pos c4]
            exact h _ _ (Nat.lt_of_lt_of_le il (Nat.le_sub_one_of_lt c4.1)) j1
          · rw [if_neg c4]
            have jl:j < l:=Nat.lt_of_le_of_ne (Nat.not_lt.mp fun z=>c4 ⟨z,jk⟩) c3
            exact h _ _ hij (Nat.lt_of_lt_of_le jl hl)
theorem wG (h2:2≤n){Q:Array Nat→Shared→Prop}(q:∀ p,Gd n p→Srt lt p n→Q p s):(kas_sort n).kasWp cmp Q s:=by
  unfold kas_sort
  rw [KasT.kasWp_bind]
  refine tZ O hc h2 fun m p g h1 hm hs => ?_
  by_cases e:m < n
  · rw [if_pos e]
    have:max m 1=m:=by omega
    show KasT.kasWp cmp (kas_bin (n - max m 1) p (max m 1)) Q s
    rw [this]
    exact oV O hc q (n - m) p m g (by omega) hs
  · rw [if_neg e]
    have:m=n:=by omega
    subst this
    exact q p g hs
end
end Fm
set_option linter.all false
namespace Fm
def t9 (x:List Int):List (List Int)→List (List Int)
  | []=>[x]
  | y :: r=>if bP x y=true then x :: y :: r else y :: t9 x r
def dC:List (List Int)→List (List Int)
  | []=>[]
  | x :: r=>t9 x (dC r)
def ua (r:List Int):D:=.tup (r.map .int)
@[simp] def kP (l:List D):Option (List D):=match nT l with
  | some r=>if l.length < 64∧r.all (fun x => !x.isEmpty)=true∧r.Nodup then some ((dC r).map ua) else none
  | none=>none
@[simp] def jb (a:EF):LF:=fun σ h=>(a σ h).bind fun x h=>match cI h x with
  | some l=>match kP l with|some l=>.ok l h|none=>.bad
  | none=>.bad
@[simp] def Bd:O2:=fun x y h=>match x,y with
  | .tup (d :: l),.int n=>if 2≤n∧(d :: l).length * n.toNat≤1000 then .ok (.tup (List.replicate n.toNat (d :: l)).flatten) h else .bad
  | _,_=>.bad
theorem kQ:∀ a,bP a a=false
  | []=>rfl
  | x :: a=>by simp [bP,kQ a]
theorem gp:∀ {a b c},bP a b=true→bP b c=true→bP a c=true
  | [],[],_,h,_=>by simp [bP] at h
  | [],_ :: _,[],_,h=>by simp [bP] at h
  | [],_ :: _,_ :: _,_,_=>rfl
  | _ :: _,[],_,h,_=>by simp [bP] at h
  | _ :: _,_ :: _,[],_,h=>by simp [bP] at h
  | x :: a,y :: b,z :: c,h,h'=>by
    simp only [bP] at h h' ⊢
    by_cases e:x=y
    · subst e
      rw [if_pos rfl] at h
      by_cases e2:x=z
      · subst e2
        rw [if_pos rfl] at h' ⊢
        exact gp h h'
      · rw [if_neg e2] at h' ⊢;exact h'
    · rw [if_neg e] at h
      by_cases e2:y=z
      · subst e2
        rw [if_neg e];exact h
      · rw [if_neg e2] at h'
        simp at h h'
        rw [if_neg (by omega)]
        simp;omega
theorem lN:∀ {a b},a≠b→bP a b=false→bP b a=true
  | [],[],h,_=>absurd rfl h
  | [],_ :: _,_,h=>by simp [bP] at h
  | _ :: _,[],_,_=>rfl
  | x :: a,y :: b,h,h'=>by
    simp only [bP] at h' ⊢
    by_cases e:x=y
    · subst e
      rw [if_pos rfl] at h' ⊢
      exact lN (fun z=>h (by rw [z])) h'
    · rw [if_neg e] at h'
      rw [if_neg (Ne.symm e)]
      simp at h' ⊢;omega
theorem nh {a b:List Int}(h:bP a b=true):bP b a=false:=by
  cases c:bP b a with
  | false=>rfl
  | true=>have:=gp h c;rw [kQ] at this;cases this
theorem lO (x:List Int):∀ r,(t9 x r).Perm (x :: r)
  | []=>.refl _
  | y :: r=>by
    simp only [t9]
    split
    · exact .refl _
    · exact ((lO x r).cons y).trans (.swap x y r)
theorem gE:∀ r,(dC r).Perm r
  | []=>.refl _
  | x :: r=>(lO x _).trans ((gE r).cons x)
theorem oW {x:List Int}:∀ {r:List (List Int)},x∉r→r.Pairwise (fun a b=>bP a b=true)→(t9 x r).Pairwise (fun a b=>bP a b=true)
  | [],_,_=>by simp [t9]
  | y :: r,hx,h=>by
    simp only [t9]
    have hy : ¬ x=y:=fun z=>hx (by simp [z])
    have hr:x∉r:=fun z=>hx (by simp [z])
    obtain⟨h1,h2⟩:=List.pairwise_cons.mp h
    split
    · rename_i c
      refine List.pairwise_cons.mpr ⟨fun b hb => ?_,h⟩
      rcases List.mem_cons.mp hb with rfl|hb
      · exact c
      · exact gp c (h1 b hb)
    · rename_i c
      have c':=lN hy (by simpa using c)
      refine List.pairwise_cons.mpr ⟨fun b hb => ?_,oW hr h2⟩
      rcases List.mem_cons.mp ((lO x r).mem_iff.mp hb) with rfl|hb
      · exact c'
      · exact h1 b hb
theorem jc:∀ {r:List (List Int)},r.Nodup→(dC r).Pairwise (fun a b=>bP a b=true)
  | [],_=>.nil
  | x :: r,h=>by
    obtain⟨h1,h2⟩:=List.nodup_cons.mp h
    exact oW (fun z=>h1 ((gE r).mem_iff.mp z)) (jc h2)
theorem B4 {a b:List (List Int)}(p:a.Perm b)(ha:a.Pairwise (fun a b=>bP a b=true))(hb:b.Pairwise (fun a b=>bP a b=true)):a=b :=
  List.Perm.eq_of_pairwise (fun x y _ _ h h'=>by have:=nh h;rw [h'] at this;cases this) ha hb p
end Fm
set_option Elab.async false
set_option linter.all false
set_option maxRecDepth 100000
namespace Fm
open PySem PySem.Spec L2 PySem.W PyProof.Rows
section
variable {X:Cx} {pos p:Pos}
theorem dz.rds {K:PySem.W.Frag}{ρ:List Addr}{H:Hp}:∀ {vs:List V} {rs:List (List Int)},dz H vs rs→RDs K ρ H (rs.map ua) vs
  | _,_,.nil=>RDs.nil
  | _,_,.cons (a:=a) (r:=r) h t=>by
    refine RDs.cons ?_ (dz.rds t)
    unfold ua
    simp only [RD]
    refine⟨a,_,rfl,h,?_⟩
    clear h
    induction r with
    | nil=>exact RDs.nil
    | cons x r ih=>exact RDs.cons (by simp only [RD]) ih
theorem dz.pick {H:Hp}{vs:List V}{rs:List (List Int)}(h:dz H vs rs):∀ (l:List Nat),(∀ i∈l,i < vs.length)→dz H (l.map fun i=>vs.getD i .non) (l.map fun i=>rs.getD i [])
  | [],_=>.nil
  | i :: l,hl=>by
    have hi:i < vs.length:=hl i (by simp)
    obtain⟨a,e,ha⟩:=h.get (i:=i) (v:=vs[i]) (by simp [hi])
    have t:=dz.pick h l fun j hj=>hl j (by simp [hj])
    have:vs.getD i .non=.ref a:=by simp [List.getD,hi,e]
    simp only [List.map_cons,this]
    exact .cons ha t
theorem aS.pick {vs:List V}{us:List Value}(h:aS vs us):∀ (l:List Nat),(∀ i∈l,i < vs.length)→aS (l.map fun i=>vs.getD i .non) (l.map fun i=>us.getD i Value.none)
  | [],_=>.nil
  | i :: l,hl=>by
    have hi:i < vs.length:=hl i (by simp)
    obtain⟨u,e,ru⟩:=h.get (i:=i) (x:=vs[i]) (by simp [hi])
    have t:=aS.pick h l fun j hj=>hl j (by simp [hj])
    simp only [List.map_cons]
    refine .cons ?_ t
    simp [List.getD,hi,e]
    exact ru
def Ji (K:PySem.W.Frag):List V→Hp→VK→Prop:=fun xs H Q=>∃ (a:Addr) (vs:List V) (rs:List (List Int)),xs=[.ref a]∧SqL K H a vs∧vs.length < 64∧dz H vs rs∧rs.Nodup∧(rs.all fun x => !x.isEmpty)=true ∧ ∀ q vs',H q=none→dz H vs' (dC rs)→Q (.ref q) (upd H q (.lst vs'))
theorem yK:fA X (.builtin "sorted") (Ji X.K):=by
  intro pins s σ H xs us Q I r h
  obtain⟨a,vs,rs,rfl,sq,h64,rv,nd,hne,q⟩:=h
  obtain⟨u,rfl,ru⟩:=aS.one r
  cases (show u=Value.ref a from ru)
  obtain⟨its,rvs,pl,hz⟩:=I.list sq
  have hl:s.heap.IsList a its.toArray:=pl.isList
  have hlen:its.length=vs.length:=rvs.length.symm
  by_cases h2:its.length < 2
  · refine kN hl h2 fun h' n hk ho => ?_
    have hs:dC rs=rs:=by
      have:rs.length < 2:=by rw [← rv.length];omega
      match rs,this with
      | [],_=>rfl
      | [_],_=>rfl
    exact⟨.ref (s.heap.objs.size + 1),_,I.laid (t':=s.toks) (o:=.lst vs) hk (Nat.le_succ _) ⟨hz,its,n,rvs,ho⟩,rfl,q _ vs (I.hok.fresh (Nat.le_succ _)) (by rw [hs];exact rv)⟩
  · obtain⟨m,hm,_⟩:=id I.loc
    have N0:News (Att.noObjs s.heap) X.env.locals s.heap (Att.ledger s.heap X.env.locals X.env.locals):=fun ⟨b,o⟩ hb=>by
      obtain⟨n1,n2,e⟩:=Att.mem_ledger.mp hb
      exact⟨e,n1,Att.noObjs_get _ _⟩
    refine kat_sorted (Att.fr_all hm) N0 hl (by omega) (by omega) fun D e1 h' F' N' lo => ?_
    have inN:∀ b o,b≠X.env.locals→s.heap.get? b=some o→(b,o)∈Att.ledger s.heap X.env.locals X.env.locals:=fun b o hb e=>Att.mem_ledger.mpr ⟨hb,hb,e⟩
    have keep':∀ b o,b≠X.env.locals→s.heap.get? b=some o→h'.get? b=some o:=fun b o hb e=>(N' (b,o) (List.mem_cons_of_mem _ (inN b o hb e))).1
    have nL:∀ b u,H b=some u→b≠X.env.locals:=fun b u e z=>by rw [z,I.free] at e;cases e
    obtain⟨fs,t1,t2,t3⟩:=oT I.hok (h':=h') (fun b o u hb e=>keep' b o (nL b u hb) e) rv rvs hne
    refine kat_kind (s:={ s with heap:=h' }) (T:=.type "int") t1 (by omega) (fun v hv => ?_) rfl ?_
    · obtain⟨i,t,rfl⟩:=t3 v hv
      exact Looks.of_pure rfl
    · have hT:(Value.type "int" != Value.type "tuple")=true:=by decide
      rw [hT]
      have hrl:rs.length=its.length:=by rw [← rv.length,hlen]
      have dif:∀ i j,i < its.length→j < its.length→i≠j→rs.getD i []≠rs.getD j []:=fun i j hi hj hij z=>by
        have e1:rs.getD i [] = rs[i]'(by omega):=by simp [List.getD,show i < rs.length by omega]
        have e2:rs.getD j [] = rs[j]'(by omega):=by simp [List.getD,show j < rs.length by omega]
        rw [e1,e2] at z
        exact hij ((List.getElem_inj nd).mp z)
      have O:Ord (fun i j=>Fm.bP (rs.getD i []) (rs.getD j [])) its.length:=⟨fun i j _ _ h=>nh h,fun i j k _ _ _ h h'=>gp h h',fun i j hi hj hij h=>lN (dif i j hi hj hij) h⟩
      refine wG O (fun i j hi hj C hC => ?_) (by omega) fun pp g srt => ?_
      · unfold kas_ask
        have at':∀ i,i < its.length → ∃ b,its.getD i Value.none=.ref b ∧ ∃ (o:Obj) (zs:List Value) (n:Nat),h'.get? b=some o∧o.data=.seq zs.toArray n∧IntsAre zs (rs.getD i []):=fun i hi=>by
          have hv:vs[i]? = some (vs[i]'(by omega)):=by simp [show i < vs.length by omega]
          obtain⟨b,e1,e2⟩:=rv.get hv
          obtain⟨u,hu,ru⟩:=rvs.get hv
          rw [e1] at ru
          cases (show u=Value.ref b from ru)
          obtain⟨z,zs,r0,⟨o,ho,hc,n,hd⟩,_⟩:=I.hok b _ e2
          exact⟨b,by simp [List.getD,hu],o,zs,n,keep' b o (nL b _ e2) ho,hd,kf r0⟩
        obtain⟨b1,x1,o1,z1,n1,y1,d1,i1⟩:=at' i hi
        obtain⟨b2,x2,o2,z2,n2,y2,d2,i2⟩:=at' j hj
        rw [x1,x2]
        refine kat_lt (s:={ s with heap:=h' }) y1 d1 y2 d2 ?_
        have:=D0 (prog:=X.prog) (w:=X.w) (A:=X.A.in1.in1) (s:={ s with heap:=h' }) (Q:=C) (rs.getD i []) (rs.getD j []) 0 i1 i2 hC
        simpa using this
      · have pmL:pp.toList.Perm (List.range its.length):=by simpa using Array.perm_iff_toList_perm.mp g.pm
        have inR:∀ i∈pp.toList,i < vs.length:=fun i hi=>by
          have:=pmL.mem_iff.mp hi
          rw [← hlen];simpa using this
        obtain⟨vs',hvs'⟩ : ∃ vs',vs'=pp.toList.map fun i=>vs.getD i .non:=⟨_,rfl⟩
        obtain⟨its',hits'⟩ : ∃ its',its'=pp.toList.map fun i=>its.getD i Value.none:=⟨_,rfl⟩
        have rv':dz H vs' (dC rs):=by
          have e:(pp.toList.map fun i=>rs.getD i [])=dC rs:=by
            refine B4 (?_:List.Perm _ _) ?_ (jc nd)
            · refine ((pmL.map fun i=>rs.getD i []).trans ?_).trans (gE rs).symm
              have:((List.range its.length).map fun i=>rs.getD i [])=rs:=by
                apply List.ext_getElem?
                intro i
                by_cases hi:i < rs.length
                · have:i < its.length:=by omega
                  simp [List.getD,hi,this]
                · have : ¬ i < its.length:=by omega
                  simp [hi,this]
              rw [this]
            · rw [List.pairwise_map]
              rw [List.pairwise_iff_getElem]
              intro i j hi hj hij
              have s1:=srt i j hij (by rw [← g.sz];simpa using hj)
              have g1:pp.getD i 0=pp.toList[i]:=by simp [Array.getD,show i < pp.size by simpa using hi]
              have g2:pp.getD j 0=pp.toList[j]:=by simp [Array.getD,show j < pp.size by simpa using hj]
              rw [g1,g2] at s1
              exact s1
          have:=rv.pick pp.toList inR
          rw [e,← hvs'] at this
          exact this
        have rvs':aS vs' its':=by rw [hvs',hits'];exact aS.pick rvs pp.toList inR
        have hz':vs'.length≤sizeLine:=by
          have l1:vs'.length=its.length:=by rw [hvs',List.length_map,pmL.length_eq,List.length_range]
          rw [l1,hlen];exact hz
        rw [← hits']
        have hDn:∀ q∈Att.ledger s.heap X.env.locals X.env.locals,q.1≠D:=fun q hq=>Nat.ne_of_lt (lo q hq)
        refine KasFin.intro F' N' (UpdF.head hDn) fun h2 c F2 N2 => ?_
        have DL:D≠X.env.locals:=(N' (D,_) (List.mem_cons_self ..)).2.1
        have hD2:h2.get? D=some (PySem.W.listOf its'.toArray c):=(N2 (D,_) (List.mem_cons_self ..)).1
        have keep2:∀ b o,b≠X.env.locals→s.heap.get? b=some o→h2.get? b=some o:=fun b o hb e=>(N2 (b,o) (List.mem_cons_of_mem _ (inN b o hb e))).1
        have bD:∀ b o,s.heap.get? b=some o→b≠D:=fun b o e=>by
          by_cases hb:b=X.env.locals
          · rw [hb];exact Ne.symm DL
          · exact hDn (b,o) (inN b o hb e)
        have HD:H D=none:=by
          cases e:H D with
          | none=>rfl
          | some u =>
            have lt:=I.hok.lt e
            have:∃ o,s.heap.get? D=some o:=by
              have ok:=I.hok D u e
              exact D3 ok
            obtain⟨o,ho⟩:=this
            exact absurd rfl (bD D o ho)
        refine⟨.ref D,upd H D (.lst vs'),?_,rfl,q D vs' HD rv'⟩
        suffices I2:L2.Inv X pins σ (upd H D (.lst vs')) { s with heap:=h2,gens:=s.gens,drawn:=s.drawn,toks:=s.toks } from I2
        refine I.step (g':=s.gens) (d':=s.drawn) (t':=s.toks) (ch:=[]) (fun _ z=>nomatch z) (fun b o hb _ _ e _=>keep2 b o hb e) (fun b o hb _ _ e _=>⟨o.slots,keep2 b o hb e⟩) (fun b o _ e n=>by rw [aB (bD b o e)];exact n) (fun b o _ e => ?_)
          (fun b ys e=>by rw [aB (aC e HD)];exact e) (fun b o u e=>by rw [aB (aC e HD)];exact e) (fun b ps e=>⟨#[],by rw [aB (aC e HD),e];simp⟩) (fun m' hm'=>by rw [D2 hm' hm];exact F2.ns) (fun b u e => ?_) I.bare
        · by_cases hb:b=X.env.locals
          · obtain⟨o',_,_,ho',_⟩:=F2.ns
            rw [hb];exact⟨o',ho'⟩
          · exact⟨o,keep2 b o hb e⟩
        · by_cases hb:b=D
          · subst hb
            rw [bi] at e
            cases e
            exact⟨hz',its',c,rvs',hD2⟩
          · rw [aB hb] at e
            refine (I.hok b u e).stay (fun c v hc z => ?_) (fun c z=>by rw [aB (aC z HD)];exact z) fun c ys z=>by rw [aB (aC z HD)];exact z
            rcases hc with w|w
            · subst w;exact keep2 c v (nL c _ e) z
            · exact keep2 c v (nL c _ w) z
theorem D7 {a:Expr} {fa:EF} (hg:Gl X "sorted") (hm:X.mg "sorted" = none) (ha:ME X a fa) (hs:starEach [a] X.env=(false,eval a X.env) :: starEach [] X.env:=by rfl):MF X (.Call (.Name "sorted" p) [a] [] pos) (jb fa):=by
  refine PE.imp (gM yK hg hm (by decide +kernel) (bX ha df hs) (he:=hs)) fun σ H Q ⟨ρ,σd,hd,rs,pp⟩=>⟨ρ,σd,hd,rs,?_⟩
  unfold jb at pp
  cases e:fa σd hd with
  | exc x h'=>rw [e] at pp;exact pp
  | bad=>rw [e] at pp;exact pp
  | ok d hd1 =>
    rw [e] at pp
    simp only [aI] at pp
    intro v H1 ρ1 e1 rs1 rv
    cases c:cI hd1 d with
    | none=>rw [c] at pp;exact pp.elim
    | some l =>
      rw [c] at pp
      simp only at pp
      cases c2:kP l with
      | none=>rw [c2] at pp;exact pp.elim
      | some l' =>
        rw [c2] at pp
        simp only [kP] at c2
        cases c3:nT l with
        | none=>rw [c3] at c2;cases c2
        | some r =>
          rw [c3] at c2
          simp only at c2
          split at c2
          · rename_i hc
            cases c2
            obtain⟨q,vs,rfl,sq,rvs⟩:=ip rs1.hp rv c
            exact⟨q,vs,r,rfl,sq,by rw [← rvs.length];exact hc.1,oU rvs c3,hc.2.2,hc.2.1,fun q' vs' hq rv'=>pp.mk e1 rs1 rv'.rds q' hq⟩
          · cases c2
end
end Fm
set_option Elab.async false
set_option linter.all false
set_option maxRecDepth 100000
namespace Fm
open PySem PySem.Spec L2 PySem.W PyProof.Rows
section
variable {X:Cx} {pos p:Pos}
theorem lP:fillsNumberSlot (.type "tuple") "mul" = pure false :=
  PySem.fillsNumberSlot_seq (id := "tuple.__mul__") (r:=some (.builtin "tuple.__rmul__")) F.slot_tuple_mul.lookup (by decide +kernel) F.slot_tuple_rmul.lookup (by decide +kernel)
theorem ub:seqRepeat? (.type "tuple")=pure (some (.builtin "tuple.__mul__")):=by
  unfold seqRepeat?
  rw [PySem.seqSlot_of (T := "tuple") (name := "__mul__") (id := "tuple.__mul__") F.slot_tuple_mul.lookup (by decide +kernel),PySem.seqSlot_of (T := "tuple") (name := "__rmul__") (id := "tuple.__rmul__") F.slot_tuple_rmul.lookup (by decide +kernel)]
  rfl
theorem yL (a:Int)(t:Tok)(l:Addr)(items:Array Value)(n:Nat)(dd:Option Addr)(sl:Array (Option Value)) :
    Meets (Builtin.«int.__rmul__» ⟨[.int a t,.ref l],[]⟩) (fun _ R s=>s.heap.get? l=some { cls:=.type "tuple",dict:=dd,data:=.seq items n,slots:=sl } ∧ R (.ok (.ret Value.notImplemented)) s) :=
  .of_wp fun prog w A R s h=>by obtain⟨hp,g,d,tk,os⟩:=s;obtain⟨hl,h⟩:=h;wp_walk;exact⟨_,rfl,h⟩
theorem B5 (l:Addr)(items:Array Value)(n:Nat)(x:Int)(u:Tok)(dd:Option Addr)(sl:Array (Option Value))(h0:items.isEmpty=false)(h2:2≤x)(h3:items.size * x.toNat≤1000) :
    Meets (Builtin.«tuple.__mul__» ⟨[.ref l,.int x u],[]⟩) (fun _ R s=>s.heap.get? l=some { cls:=.type "tuple",dict:=dd,data:=.seq items n,slots:=sl } ∧ R (.ok (.ret (Value.ref s.heap.objs.size))) { s with heap:=s.heap.push { cls:=Value.type "tuple",data:=Data.seq (List.foldl (fun x1 x2=>x1++x2) #[] (List.replicate x.toNat items)) },toks:=s.toks }) :=
  .of_wp fun prog w A R s h=>by
    obtain⟨hp,g,d,tk,os⟩:=s;obtain⟨hl,h⟩:=h
    have f1:=PySem.AutoSeq1.idx_int
    have c1:(decide (x < -(2 ^ 63)) || decide (x ≥ 2 ^ 63))=false:=by
      have:x.toNat≤1000:=by
        have:1≤items.size:=by
          cases e:items.size with
          | zero=>rw [Array.isEmpty,e] at h0;simp at h0
          | succ k=>omega
        have:=Nat.le_mul_of_pos_left x.toNat this
        omega
      simp;omega
    have c2:(items.isEmpty || x == 1)=false:=by rw [h0];simp;omega
    have c3:(decide (x≤0) || items.isEmpty)=false:=by rw [h0];simp;omega
    have c5:(items.size:Int) * x≤1000:=by
      have e:((items.size * x.toNat:Nat):Int)=(items.size:Int) * x:=by
        rw [Int.natCast_mul,Int.toNat_of_nonneg (by omega)]
      rw [← e];omega
    have c4 : ¬ ((items.size:Int) * x > (2 ^ 63 - 1) / 8):=by omega
    have c6:Builtin.Tuple.tupleTooMany ((items.size:Int) * x)=false:=by
      unfold Builtin.Tuple.tupleTooMany
      simp [sizeLine];omega
    have hsz:(List.foldl (fun x1 x2=>x1++x2) #[] (List.replicate x.toNat items)).size≤sizeLine:=by
      rw [PySem.AutoListH.size_joined,sizeLine_eq]
      simp only [Array.size_empty,Nat.zero_add]
      rw [Nat.mul_comm];omega
    wp_walk using wpAny_loadPart' hl
    refine wpAny_ite_false (decide_eq_false (by rw [c1];simp)) ?_
    wp_walk using wpAny_loadPart' hl
    refine wpAny_ite_false (decide_eq_false (by rw [c2];simp)) ?_
    wp_walk using wpAny_loadPart' hl
    refine wpAny_ite_false (decide_eq_false (by rw [c3];simp)) ?_
    wp_walk using wpAny_loadPart' hl
    refine wpAny_ite_false (decide_eq_false c4) ?_
    wp_walk using wpAny_loadPart' hl
    exact⟨_,rfl,h⟩
def HQ (K:PySem.W.Frag):R2:=fun x y H Q=>∃ a k xs,x=.ref a∧y=.int k∧SqT K H a xs∧xs≠[]∧2≤k∧xs.length * k.toNat≤1000 ∧ ∀ p,H p=none→Q (.ref p) (upd H p (.tup (List.replicate k.toNat xs).flatten))
theorem Gv:OpR X (binaryOp .Mult) (HQ X.K):=by
  intro pins s σ H x y v u Q I rx ry h
  obtain⟨a,k,xs,rfl,rfl,ha,hx,h2,h3,q⟩:=h
  cases rx
  obtain⟨t,rfl⟩:=ry
  obtain⟨its,r1,p1,_⟩:=I.tuple ha
  obtain⟨⟨cls,dd,data,sl⟩,ho,hc,n,hd⟩:=id p1
  simp only at hc hd
  subst hc hd
  have hne:its≠[]:=fun z=>hx (r1.nil_iff.mp z)
  have h0:its.toArray.isEmpty=false:=by
    cases its with
    | nil=>exact absurd rfl hne
    | cons a r=>simp
  have h3':its.toArray.size * k.toNat≤1000:=by rw [List.size_toArray,← r1.length];exact h3
  have hnew:List.foldl (fun x1 x2=>x1++x2) #[] (List.replicate k.toNat its.toArray)=(List.replicate k.toNat its).flatten.toArray:=by
    have:=si its k.toNat []
    rw [List.nil_append] at this
    exact this
  refine wpAny_binaryOp_repeat_ref (T := "tuple") (U := "int") (by decide) ⟨_,ho,rfl⟩ (fun s'=>typeIs_int s' k t) lP F.fills_int_mul F.slot_int_rmul ub F.slot_int_index.lookup
    (call_meets F.slot_int_rmul (typeIs_int s k t) F.entry_int_rmul (F.args_int_rmul_2 _ _) (yL k t a its.toArray n dd sl)
      ⟨ho,rfl,⟨_,ho,rfl⟩,call_meets F.slot_tuple_mul ⟨_,ho,rfl⟩ F.entry_tuple_mul (F.args_tuple_mul_2 _ _) (B5 a its.toArray n k t dd sl h0 h2 h3') ⟨ho,?_⟩⟩)
  rw [hnew]
  refine⟨.ref s.heap.objs.size,_,I.laid (t':=s.toks) (o:=.tup (List.replicate k.toNat xs).flatten) (fun b ob q=>Heap.get?_push_of_some _ q) (Nat.le_refl _) ?_,rfl,q _ (I.hok.fresh (Nat.le_refl _))⟩
  exact⟨by rw [Ge,sizeLine_eq,Nat.mul_comm];omega,_,r1.rep k.toNat,kc.new _ _⟩
theorem RDs.rep {K:PySem.W.Frag}{ρ:List Addr}{H:Hp}{l:List D}{vs:List V}(r:RDs K ρ H l vs):∀ k,RDs K ρ H (List.replicate k l).flatten (List.replicate k vs).flatten
  | 0=>RDs.nil
  | k + 1=>by
    rw [List.replicate_succ,List.replicate_succ,List.flatten_cons,List.flatten_cons]
    exact RDs.append r (RDs.rep r k)
theorem Gw {K:PySem.W.Frag}:Og K Bd (HQ K):=by
  intro ρ H σd hd σ d k v w Q rs rv rw' pp
  cases d<;>try exact pp.elim
  rename_i l
  cases l with
  | nil=>exact pp.elim
  | cons x xs =>
    cases k<;>try exact pp.elim
    rename_i n
    simp only [Bd] at pp
    split at pp
    · rename_i hz
      simp only [RD] at rv rw'
      obtain⟨a,vs,rfl,ha,rvs⟩:=rv
      refine⟨a,n,vs,rfl,rw',SqT.of ha,?_,hz.1,by rw [← rvs.length];exact hz.2,fun q hq => ?_⟩
      · intro z;subst z;have:=rvs.length;simp at this
      · have sm:=cm (o:=HO.tup (List.replicate n.toNat vs).flatten) hq
        exact pp.at (Ext.same sm) (rs.same sm) (by simp only [rD,RD];exact⟨q,_,rfl,bi,(RDs.rep rvs n.toNat).mono (Kp.same sm)⟩)
    · exact pp.elim
end
end Fm
set_option linter.all false
namespace Fm
end Fm
set_option Elab.async false
set_option linter.all false
set_option maxRecDepth 100000
namespace L2
open PySem PySem.Spec PyProof.Rows
section
variable {κ : Type} [DecidableEq κ]
end
section
variable {P:Program} {w:World} {H:Hp} {h:Heap} {a:Addr}
end
section
variable {X:Cx} {pins:List (Addr × Obj)} {σ:St} {H:Hp} {s:Shared} {a:Addr} {y v:V} {u r:Value} {o:Option V} {A:Around} {E:Value→Shared→Prop}
end
section
variable {X:Cx} {pins:List (Addr × Obj)} {σ:St} {H:Hp} {s:Shared} {a:Addr} {kvs:List (Key × V)} {k:Key} {u:Value} {A:Around} {E:Value→Shared→Prop}
end
section
variable {X:Cx} {o i e value:Expr} {pos pos' tpos:Pos} {td ty tv:TE}
end
section
variable {X:Cx} {pos:Pos}
end
structure M1 (X:Cx) (o:Expr) (m:Str) (apos:Pos) (e:Expr) (cpos:Pos):Prop where
  base:attributeBase o m X.env (eval o X.env)=eval o X.env
  few:((backTo cpos (starEach [e] X.env)).all (fun x => !x.1) && (backToKw cpos (keywordEach [] X.env)).all (fun x=>x.1.isSome)
    && decide (([e] : List Expr).length + ([] : List Keyword).length + (if ([] : List Keyword).isEmpty then 0 else 1) < 30))=true
  line:(apos.endLine == cpos.line)=true
  trees:backTo cpos (starEach [e] X.env)=[(false,eval e X.env)]
structure M2 (X:Cx) (o:Expr) (m:Str) (apos:Pos) (e f:Expr) (cpos:Pos):Prop where
  base:attributeBase o m X.env (eval o X.env)=eval o X.env
  few:((backTo cpos (starEach [e,f] X.env)).all (fun x => !x.1) && (backToKw cpos (keywordEach [] X.env)).all (fun x=>x.1.isSome)
    && decide (([e,f] : List Expr).length + ([] : List Keyword).length + (if ([] : List Keyword).isEmpty then 0 else 1) < 30))=true
  line:(apos.endLine == cpos.line)=true
  trees:backTo cpos (starEach [e,f] X.env)=[(false,eval e X.env),(false,eval f X.env)]
section
variable {X:Cx} {pins:List (Addr × Obj)} {σ:St} {H:Hp} {s:Shared} {a:Addr} {y d:V} {u r:Value} {o:Option V} {A:Around} {E:Value→Shared→Prop}
end
section
variable {X:Cx} {o e f:Expr} {apos cpos:Pos} {td ty tx:TE}
end
section
variable {X:Cx} {pins:List (Addr × Obj)} {σ:St} {H:Hp} {s:Shared} {a:Addr} {kvs:List (Key × V)} {A:Around} {E:Value→Shared→Prop}
end
section
variable {X:Cx} {pins:List (Addr × Obj)} {σ:St} {H:Hp} {s:Shared} {a:Addr} {y:V} {u:Value} {A:Around} {E:Value→Shared→Prop}
end
end L2
set_option Elab.async false
set_option linter.all false
set_option maxRecDepth 100000
namespace Fm
open PySem PySem.Spec L2 PySem.W PyProof.Rows
section
variable {K:PySem.W.Frag} {ρ:List Addr} {H:Hp} {hd:Hd}
end
section
variable {X:Cx} {pos p:Pos}
end
end Fm
set_option Elab.async false
set_option linter.all false
set_option maxRecDepth 100000
namespace Fm
open PySem PySem.Spec L2 PySem.W PyProof.Rows
section
variable {X:Cx} {pos p:Pos}
end
end Fm
set_option Elab.async false
set_option linter.all false
set_option maxRecDepth 100000
namespace Fm
open PySem PySem.Spec L2 PySem.W PyProof.Rows
section
variable {X:Cx} {pos p:Pos}
def ov:List Addr→List (List Int)→Hp→Hp
  | a :: as,r :: rs,H=>upd (ov as rs H) a (.tup (r.map V.int))
  | _,_,H=>H
end
end Fm
set_option linter.all false
namespace Fm
@[simp] def Lk (x i e:EF):EF:=fun σ h=>(x σ h).bind fun p h=>match p with
  | .ref n=>match h[n]? with
    | some (.lst _)=>(i σ h).bind fun j h=>(e σ h).bind fun d h=>match j with
      | .int k=>match h[n]? with
        | some (.lst l)=>if 0≤k∧k≤l.length∧l.length < SZ then .ok .non (h.set n (.lst (l.take k.toNat++[d]++l.drop k.toNat))) else .bad
        | _=>.bad
      | _=>.bad
    | _=>.bad
  | _=>.bad
@[simp] def sx (a b:EF):LF:=fun σ h=>(a σ h).bind fun x h=>(b σ h).bind fun y h=>match x,y with
  | .ref n,.ref m=>match h[n]?,h[m]? with
    | some (.lst l),some (.lst k)=>if l.length + k.length≤SZ then .ok (l++k) h else .bad
    | _,_=>.bad
  | _,_=>.bad
end Fm
set_option Elab.async false
set_option linter.all false
set_option maxRecDepth 100000
namespace Fm
open PySem PySem.Spec L2 PySem.W PyProof.Rows
section
variable {X:Cx} {pos p:Pos}
theorem sy {K:PySem.W.Frag}{ρ:List Addr}{H:Hp}:∀ {l:List D} {vs:List V} {bs:List Bool},RDs K ρ H l vs→iZ l=some bs→vs=bs.map V.bl
  | [],_,is,r,e=>by simp only [iZ] at e;cases e;simp only [RDs] at r;subst r;rfl
  | d :: l,_,is,r,e=>by
    simp only [RDs] at r
    obtain⟨v,vs,rfl,h1,h2⟩:=r
    cases d<;>simp only [iZ] at e<;>try (cases e;done)
    rename_i i
    cases c:iZ l with
    | none=>rw [c] at e;cases e
    | some js =>
      rw [c] at e
      cases e
      simp only [RD] at h1
      rw [h1,sy h2 c]
      rfl
theorem D8 {bs:List Bool}{its:List Value}(r:aS (bs.map V.bl) its):∀ (i:Nat) (v:Value),its.toArray[i]? = some v→v=.bool (bs.getD i false):=by
  intro i v e
  have e':its[i]? = some v:=by simpa using e
  have hi:i < bs.length:=by
    have:=(List.getElem?_eq_some_iff.mp e').1
    have:=r.length
    simp at this
    omega
  obtain⟨u,hu,ru⟩:=r.get (i:=i) (x:=V.bl bs[i]) (by simp [hi])
  rw [hu] at e'
  cases e'
  rw [show v=Value.bool bs[i] from ru]
  simp [List.getD,hi]
theorem D9 (bs:List Bool):(List.range bs.length).all (fun i=>bs.getD i false)=bs.all id:=by
  have:bs=(List.range bs.length).map fun i=>bs.getD i false:=by
    apply List.ext_getElem?
    intro i
    by_cases hi:i < bs.length<;>simp [List.getD,hi]
  conv=>rhs;rw [this]
  rw [List.all_map]
  rfl
theorem B6 (hc:X.calm=true):fA X (.builtin "all") (fun xs H Q=>∃ (p:Addr) (bs:List Bool),xs=[.ref p]∧(SqL X.K H p (bs.map V.bl)∨SqT X.K H p (bs.map V.bl))∧Q (.bl (bs.all id)) H):=by
  intro pins s σ H xs us Q I r q
  obtain⟨p,bs,rfl,sq,q⟩:=q
  obtain⟨u,rfl,ru⟩:=aS.one r
  cases (show u=Value.ref p from ru)
  have hA:(X.A.in1).handled=none:=I.ok.hd hc
  have tr:∀ (its:List Value),aS (bs.map V.bl) its→TruthOf X.prog X.w X.A.in1 (fun i v=>its.toArray[i]? = some v) (fun i=>bs.getD i false):=fun its rv i v s Q E hP hQ=>by
    rw [D8 rv i v hP]
    exact wpAny_truthy_bool hQ
  have fin:∀ {it:Obj} {h':Heap} {tk:Nat} {n:Nat},n=bs.length→(∀ b o,b∉[s.heap.objs.size]→(s.heap.push it).get? b=some o→h'.get? b=some o)→EP X pins σ Q (.bool ((List.range n).all fun i=>bs.getD i false)) { s with heap:=h',toks:=tk }:=by
    intro it h' tk n hn hk
    subst hn
    refine⟨.bl (bs.all id),H,I.kept (t':=tk) fun b o e=>hk b o (by simp;exact Nat.ne_of_lt (Heap.lt_size e)) (Heap.get?_push_of_some _ e),by rw [D9];rfl,q⟩
  rcases sq with sq|sq
  · obtain⟨its,rv,pl,hz⟩:=I.list sq
    have il:s.heap.IsList p its.toArray:=pl.isList
    have hlt:p < s.heap.objs.size:=by obtain⟨o,ho,_⟩:=il;exact Heap.lt_size ho
    refine PySem.call_all_walk (PySem.wpAny_pyIter_list il ?_)
    refine⟨s.heap.objs.size,_,[s.heap.objs.size],_,_,_,fun i=>bs.getD i false,rfl,PySem.Walks.list hA s.heap.objs.size p (Nat.ne_of_lt hlt) its.toArray,⟨⟨_,Heap.get?_push_size _ rfl,rfl,rfl⟩,?_⟩,tr its rv,?_⟩
    · obtain⟨o,ho,r⟩:=il;exact⟨o,Heap.get?_push_of_some _ ho,r⟩
    · exact fun h' tk hk=>fin (by simpa using rv.length.symm) hk
  · obtain⟨its,rv,pl,hz⟩:=I.tuple sq
    have il:s.heap.IsTuple p its.toArray:=pl
    have hlt:p < s.heap.objs.size:=by obtain⟨o,ho,_⟩:=il;exact Heap.lt_size ho
    refine PySem.call_all_walk (PySem.wpAny_pyIter_tuple il ?_)
    refine⟨s.heap.objs.size,_,[s.heap.objs.size],_,_,_,fun i=>bs.getD i false,rfl,PySem.Walks.tuple hA s.heap.objs.size p (Nat.ne_of_lt hlt) its.toArray,⟨⟨_,Heap.get?_push_size _ rfl,rfl,rfl⟩,?_⟩,tr its rv,?_⟩
    · obtain⟨o,ho,r⟩:=il;exact⟨o,Heap.get?_push_of_some _ ho,r⟩
    · exact fun h' tk hk=>fin (by simpa using rv.length.symm) hk
theorem Ea {a:Expr} {la:LF} (hc:X.calm=true) (hg:Gl X "all") (hm:X.mg "all" = none) (ha:MQ X a la) (hs:starEach [a] X.env=(false,eval a X.env) :: starEach [] X.env:=by rfl):ME X (.Call (.Name "all" p) [a] [] pos) (BU la):=by
  refine tT (g:=fun l h=>match iZ l with|some bs=>.ok (.bl (bs.all id)) h|none=>.bad) (DP (B6 hc) hg hm (by decide +kernel) (he:=hs)) ha (fun ρ H σd hd σ l q vs Q rs sq rvs p => ?_) hs
  cases c:iZ l with
  | none=>simp only [c] at p;exact p.elim
  | some is =>
    simp only [c] at p
    have e:=sy rvs c
    subst e
    exact⟨q,is,rfl,sq.imp id SqT.of,p.here rs (by simp only [rD,RD])⟩
theorem Gx {a b:Expr}{fa fb:EF}(ha:ME X a fa)(hb:ME X b fb):MF X (.BinOp a .Add b pos) (sx fa fb):=by
  refine PE.imp (HJ IM ha hb) fun σ H Q ⟨ρ,σd,hd,rs,pp⟩=>⟨ρ,σd,hd,rs,?_⟩
  unfold sx at pp
  cases e:fa σd hd with
  | exc x h'=>rw [e] at pp;exact pp
  | bad=>rw [e] at pp;exact pp
  | ok d hd1 =>
    rw [e] at pp
    simp only [aI] at pp
    intro v H1 ρ1 e1 rs1 rv
    refine⟨ρ1,σd,hd1,rs1,?_⟩
    cases e2:fb σd hd1 with
    | exc x h'=>rw [e2] at pp;exact pp
    | bad=>rw [e2] at pp;exact pp
    | ok k hd2 =>
      rw [e2] at pp
      simp only [aI] at pp
      intro w H2 ρ2 ex2 rs2 rw'
      cases d with
      | ref n =>
        cases k with
        | ref m =>
          simp only at pp
          simp only [rD,RD] at rv rw'
          obtain⟨a1,ha1,rfl⟩:=rv
          obtain⟨b1,hb1,rfl⟩:=rw'
          have ha2:=ex2.get ha1
          cases c1:hd2[n]? with
          | none=>rw [c1] at pp;exact pp.elim
          | some x1 =>
            cases c2:hd2[m]? with
            | none=>rw [c1,c2] at pp;cases x1<;>exact pp.elim
            | some x2 =>
              rw [c1,c2] at pp
              cases x1 with
              | dct _=>exact pp.elim
              | lst l =>
                cases x2 with
                | dct _=>exact pp.elim
                | lst k =>
                  simp only at pp
                  split at pp
                  · rename_i hz
                    obtain⟨vs1,hv1,rvs1⟩:=rs2.hp.cel n _ a1 c1 ha2
                    obtain⟨vs2,hv2,rvs2⟩:=rs2.hp.cel m _ b1 c2 hb1
                    refine⟨a1,b1,vs1,vs2,rfl,rfl,hv1,hv2,by rw [← rvs1.length,← rvs2.length];exact og hz,fun p' hp' => ?_⟩
                    exact A1.mk pp (e1.trans ex2) rs2 (RDs.append rvs1 rvs2) p' hp'
                  · exact pp.elim
        | _=>exact pp.elim
      | _=>exact pp.elim
end
end Fm
set_option linter.all false
namespace Fm
@[simp] def Ll (a:EF):EF:=fun σ h=>(a σ h).bind fun x h=>match x with | .int i=>.ok (.int i.natAbs) h|_=>.bad
@[simp] def yM (a b:EF):EF:=fun σ h=>(a σ h).bind fun x h=>(b σ h).bind fun y h=>match x,y with
  | .int i,.int j=>.ok (.int (if j < i then j else i)) h
  | _,_=>.bad
noncomputable section
open Classical
def lQ (G:Hd→Prop) (tg:GF) (b:SF):List D→SF
  | [],σ,h=>if G h then .nx σ h else .bad
  | x :: xs,σ,h=>if G h then match tg x σ with
      | some σ=>match b σ h with
        | .nx σ h=>lQ G tg b xs σ h
        | .ct σ h=>lQ G tg b xs σ h
        | .bk σ h=>.nx σ h
        | r=>r
      | none=>.bad
    else .bad
def ga (l:List D):List D:=(List.range l.length).zip l |>.map fun p=>.tup [.int (p.1:Nat),p.2]
end
end Fm
set_option Elab.async false
set_option linter.all false
set_option maxRecDepth 100000
namespace Fm
open PySem PySem.Spec L2
open PyProof.Rows (Call_)
section
variable {prog:Program} {w:World} {A:Around} {E:Value→Shared→Prop} {s:Shared} {z TI TO i1 i2 l1 l2:Addr} {k:Nat} {xs ys:Array Value} {a b:Value}
end
section
variable {prog:Program} {w:World} {A:Around} {E:Value→Shared→Prop} {s:Shared}
end
theorem Gy {X:Cx}{pins:List (Addr × Obj)}{σ:St}{H:Hp}{s:Shared}{h':Heap}{t':Nat}{ch:List Addr}(I:L2.Inv X pins σ H s)(k:∀ b o,b∉ch→s.heap.get? b=some o→h'.get? b=some o)(hf:∀ b∈ch,oA X pins H b) :
    L2.Inv X pins σ H { s with heap:=h',toks:=t' }:=by
  have nit:∀ b u,H b=some u→b∉ch:=fun b u e z=>by rw [(hf b z).1] at e;cases e
  refine I.step (g':=s.gens) (d':=s.drawn) (ch:=ch) (fun b hb=>⟨(hf b hb).2.2.2.1,(hf b hb).2.1,(hf b hb).2.2.2.2.1,(hf b hb).2.2.2.2.2⟩) (fun b o _ _ hc e _=>k b o hc e) (fun b o _ _ hc e _=>⟨o.slots,k b o hc e⟩) (fun _ _ _ _ n=>n)
    (fun b o hc e=>⟨o,k b o hc e⟩) (fun _ _ e=>e) (fun _ _ _ e=>e) (fun b ps e=>⟨#[],by rw [e];simp⟩) (fun m hm => ?_) (fun b u e => ?_) I.bare
  · obtain⟨o,es,ep,ho,r⟩:=hm
    exact⟨o,es,ep,k _ o (fun z=>(hf _ z).2.1 rfl) ho,r⟩
  · refine (I.hok b u e).stay (fun c v hc q=>k c v ?_ q) (fun _ q=>q) fun _ _ q=>q
    rcases hc with z|z
    · rw [z];exact nit b u e
    · exact nit c _ z
section
variable {X:Cx} {pos p tp:Pos} {elts:List Expr} {tk:Nat}
end
end Fm
set_option Elab.async false
set_option linter.all false
set_option maxRecDepth 100000
namespace Fm
open PySem PySem.Spec L2 PySem.W PyProof.Rows
section
variable {X:Cx} {pos p:Pos}
theorem Jj {a b:Expr} {fa fb:EF} (hc:X.calm=true) (hg:Gl X "min") (hm:X.mg "min" = none) (ha:ME X a fa) (hb:ME X b fb) (hs:starEach [a,b] X.env=(false,eval a X.env) :: starEach [b] X.env:=by rfl) (hs2:starEach [b] X.env=(false,eval b X.env) :: starEach [] X.env:=by rfl) (hpl:(backTo pos (starEach [b] X.env)).any (fun x=>x.1)=false:=by rfl):ME X (.Call (.Name "min" p) [a,b] [] pos) (yM fa fb):=by
  refine PE.imp (gM (BP hc) hg hm (by decide +kernel) (bX ha (bX hb df hs2) hs) (he:=hs) (hpl:=hpl)) fun σ H Q ⟨ρ,σd,hd,rs,pp⟩=>⟨ρ,σd,hd,rs,?_⟩
  unfold yM at pp
  refine (bw.bind (R:=rD X.K) pp).imp fun v H1 ⟨ρ1,d,hd1,e1,rs1,rv,p1⟩ => ?_
  refine⟨ρ1,σd,hd1,rs1,(bw.bind (R:=rD X.K) p1).imp fun w H2 ⟨ρ2,k,hd2,e2,rs2,rw',p2⟩ => ?_⟩
  cases d<;>try exact p2.elim
  cases k<;>try exact p2.elim
  simp only [rD,RD] at rv rw'
  subst rv rw'
  exact⟨_,_,rfl,p2.here rs2 (by simp only [rD,RD])⟩
end
section
variable {prog:Program} {w:World} {A:Around} {E:Value→Shared→Prop} {s:Shared}
end
section
variable {X:Cx} {pos p:Pos}
end
end Fm
set_option Elab.async false
set_option linter.all false
set_option maxRecDepth 100000
namespace Fm
open PySem PySem.Spec L2
open AutoSeq1 (wpAny_loadPart')
open PyProof.Rows (Call_)
def ItL (K:PySem.W.Frag) (a:Addr):It :=
  ⟨fun i H=>∃ xs x,SqL K H a xs∧xs[i]? = some x,fun i H x H'=>∃ q v,x=.ref q∧H q=none∧H'=upd H q (.tup [.int (i:Nat),v]) ∧ ∀ xs,SqL K H a xs→xs[i]? = some v,fun i H=>∃ xs,SqL K H a xs∧xs.length=i⟩
theorem yN {P:Program}{w:World}{K:PySem.W.Frag}{elts:List Expr}{k:Nat}{pos:Pos}(e it a:Addr):wg P w K (.Tuple elts k pos) (ItL K a) [e,it] e (fun i h=>(∃ old,IsEnum h e it (i:Nat) old)∧h.IsListIter it a i) where
  mem:=by simp
  obj:=fun i h st b hb=>by
    obtain⟨⟨old,he⟩,o,ho,hc,hd⟩:=st
    rcases List.mem_cons.mp hb with rfl|hb
    · exact⟨_,he,fun v z=>by
        have z':Data.fields _=Data.cell v:=z
        cases z'⟩
    · have:b=it:=by simpa using hb
      subst this
      exact⟨o,ho,fun v z=>by rw [hd] at z;cases z⟩
  keep:=fun i h h' st kk=>by
    obtain⟨⟨old,he⟩,st⟩:=st
    exact⟨⟨old,kk e (by simp) _ he⟩,st.at fun o x=>kk it (by simp) o x⟩
  item:=by
    intro X hP hw hK hc i pins s σ H E I hf st hg
    subst hP hw hK
    obtain⟨⟨old,he⟩,hit⟩:=st
    obtain⟨xs,x,hq,hx⟩:=hg
    obtain⟨its,rv,p,hz⟩:=I.list hq
    have ht:s.heap.IsList a its.toArray:=p.isList
    obtain⟨oi,hoi,hci,hdi⟩:=id hit
    obtain⟨oa,hoa,hca,na,hda⟩:=id ht
    have hei:e≠it:=fun z=>by
      subst z
      have he':s.heap.get? e=_:=he
      rw [hoi] at he';cases he';exact wC hci (by decide)
    have hea:e≠a:=fun z=>by
      subst z
      have he':s.heap.get? e=_:=he
      rw [hoa] at he';cases he';exact wC hca (by decide)
    have hai:a≠it:=fun z=>by
      subst z
      rw [hoi] at hoa;cases hoa;rw [hci] at hca;exact wC hca (by decide)
    obtain⟨e0,e1,e2,e3,e4,e5⟩:=hf e (by simp)
    obtain⟨f0,f1,f2,f3,f4,f5⟩:=hf it (by simp)
    have hlt:i < its.toArray.size:=by
      have:=(List.getElem?_eq_some_iff.mp hx).1
      have hl:=rv.length
      simp;omega
    refine wpAny_pyNext_enum_itemD (Draws.list (prog:=X.prog) (w:=X.w) (A:=X.A.in1) (I.ok.hd hc) it a hai its.toArray) he ⟨hit,ht⟩ hlt hei (by simp;exact⟨hei,hea⟩) fun y h' tk hy heo hst' htup hsz hk => ?_
    refine⟨_,rfl,wpAny_letOwnedTupleGo_enum heo fun h2 he2 hs2 => ?_⟩
    replace hs2:Heap.SameBut e h' h2:=hs2
    obtain⟨u,hu,ru⟩:=rv.get hx
    have hyu:y=u:=by
      have:its.toArray[i]? = some u:=by simpa using hu
      rw [hy] at this;exact Option.some.inj this
    subst hyu
    have elt:e < s.heap.objs.size:=Heap.lt_size he
    have ilt:it < s.heap.objs.size:=Heap.lt_size hoi
    have hN:H s.heap.objs.size=none:=I.hok.fresh (Nat.le_refl _)
    have keep:∀ b o,b≠e→b≠it→s.heap.get? b=some o→h2.get? b=some o:=fun b o b1 b2 q=>(hs2.2 b b1).trans (hk b o b1 b2 q)
    have htup2:h2.get? s.heap.objs.size=some { cls:=.type "tuple",data:=.seq #[.int i tk,y] }:=(hs2.2 _ (Nat.ne_of_gt elt)).trans htup
    have nch:∀ b,b∉([e,it] : List Addr)→b≠e∧b≠it:=fun b hb=>by simpa using hb
    refine⟨.ref s.heap.objs.size,upd H s.heap.objs.size (.tup [.int (i:Nat),x]),?_,rfl,⟨_,x,rfl,hN,rfl,fun ys hys=>by rw [I.list_inj hys hq];exact hx⟩,⟨⟨_,by simpa using he2⟩,hst'.1.extBut hs2.extBut (Ne.symm hei)⟩,fun b hb => ?_⟩
    · suffices I2:L2.Inv X pins σ (upd H s.heap.objs.size (.tup [.int (i:Nat),x])) { s with heap:=h2,gens:=s.gens,drawn:=s.drawn,toks:=tk + 1 } from I2
      refine I.step (g':=s.gens) (d':=s.drawn) (t':=tk + 1) (ch:=[e,it]) (fun b hb => ?_) (fun b o _ _ hb q _=>keep b o (nch b hb).1 (nch b hb).2 q) (fun b o _ _ hb q _=>⟨o.slots,keep b o (nch b hb).1 (nch b hb).2 q⟩) (fun b o _ q n => ?_) (fun b o hb q=>⟨o,keep b o (nch b hb).1 (nch b hb).2 q⟩)
        (fun b ys q => ?_) (fun b o u q => ?_) (fun b ps q=>⟨#[],?_⟩) (fun m hm => ?_) (fun b u q => ?_) I.bare
      · rcases List.mem_cons.mp hb with rfl|hb
        · exact⟨e3,e1,e4,e5⟩
        · have:b=it:=by simpa using hb
          subst this
          exact⟨f3,f1,f4,f5⟩
      · rw [aB (Nat.ne_of_lt (Heap.lt_size q))];exact n
      · rw [aB (aC q hN)];exact q
      · rw [aB (aC q hN)];exact q
      · rw [aB (aC q hN),q];simp
      · obtain⟨o,es,ep,ho,r⟩:=hm
        exact⟨o,es,ep,keep _ o (Ne.symm e1) (Ne.symm f1) ho,r⟩
      · by_cases hb:b=s.heap.objs.size
        · subst hb
          rw [bi] at q
          cases q
          exact⟨by show 2≤sizeLine;rw [sizeLine_eq];decide,[.int i tk,y],.cons ⟨tk,rfl⟩ (.cons ru .nil),⟨_,htup2,rfl,_,rfl⟩,_,htup2,rfl⟩
        · rw [aB hb] at q
          have ne1:∀ c v,H c=some v→c≠e:=fun c v z w=>by rw [w,e0] at z;cases z
          have ne2:∀ c v,H c=some v→c≠it:=fun c v z w=>by rw [w,f0] at z;cases z
          refine (I.hok b u q).stay (fun c v hc' z => ?_) (fun c z=>by rw [aB (aC z hN)];exact z) fun c ys z=>by rw [aB (aC z hN)];exact z
          rcases hc' with w|w
          · subst w;exact keep c v (ne1 c _ q) (ne2 c _ q) z
          · exact keep c v (ne1 c _ w) (ne2 c _ w) z
    · have:b≠s.heap.objs.size:=by
        rcases List.mem_cons.mp hb with rfl|hb
        · exact Nat.ne_of_lt elt
        · have:b=it:=by simpa using hb
          subst this
          exact Nat.ne_of_lt ilt
      rw [aB this]
      exact (hf b hb).1
  done:=by
    intro X hP hw hK hc i pins s σ H E I hf st hg
    subst hP hw hK
    obtain⟨⟨old,he⟩,hit⟩:=st
    obtain⟨xs,hq,hx⟩:=hg
    obtain⟨its,rv,p,hz⟩:=I.list hq
    have ht:s.heap.IsList a its.toArray:=p.isList
    obtain⟨oi,hoi,hci,hdi⟩:=id hit
    obtain⟨oa,hoa,hca,na,hda⟩:=id ht
    have hai:a≠it:=fun z=>by
      subst z
      rw [hoi] at hoa;cases hoa;rw [hci] at hca;exact wC hca (by decide)
    obtain⟨f0,f1,f2,f3,f4,f5⟩:=hf it (by simp)
    have hsz:its.toArray.size=i:=by have:=rv.length;simp;omega
    refine wpAny_pyNext_enum_endD (Draws.list (prog:=X.prog) (w:=X.w) (A:=X.A.in1) (I.ok.hd hc) it a hai its.toArray) he ⟨by rw [hsz];exact hit,ht⟩ fun h' hx'=>⟨rfl,I.turned (t':=s.toks) (fun b o hb e=>hx' b o hb e) f0 f1 f3 f4 f5⟩
  self:=fun _ _ _ _ _ st h=>by
    obtain⟨⟨old,he⟩,_⟩:=st
    exact wpAny_pyIter_enum he h
section
variable {X:Cx} {pos p tp:Pos} {elts:List Expr} {tk:Nat}
def Ld (K:PySem.W.Frag) (ta:TE):TI:=fun σ H R=>ta σ H fun x H1=>∃ a xs,x=.ref a∧SqL K H1 a xs∧(xs.length≤sizeLine→R (ItL K a) H1)
theorem Eb {a:Expr} {ta:TE} (hg:Gl X "enumerate") (hm:X.mg "enumerate" = none) (ha:PE X a ta) (hs:starEach [a] X.env=[(false,eval a X.env)]:=by rfl):PI X (.Tuple elts tk tp) (.Call (.Name "enumerate" p) [a] [] pos) (Ld X.K ta):=by
  intro pins s σ H R I h
  have hpa:=bX ha df hs
  refine Call_ (ke I hg hm PyProof.Rows.boot_enumerate (PyProof.Rows.callWith_type1 (thn (hpa pos pins s σ H (fun vs H1=>∃ a xs,vs=[.ref a]∧SqL X.K H1 a xs∧(xs.length≤sizeLine→R (ItL X.K a) H1)) I ?_) fun us s1 ⟨vs,H1,I1,r1,q1⟩ => ?_) hs rfl))
  · show ta σ H fun x H1=>_
    have key:∀ (x:V) (H1:Hp),(∃ a xs,x=.ref a∧SqL X.K H1 a xs∧(xs.length≤sizeLine→R (ItL X.K a) H1))=(∃ a xs,[x] = [.ref a]∧SqL X.K H1 a xs∧(xs.length≤sizeLine→R (ItL X.K a) H1)):=fun x H1=>by simp
    have h':ta σ H fun x H1=>∃ a xs,x=.ref a∧SqL X.K H1 a xs∧(xs.length≤sizeLine→R (ItL X.K a) H1):=h
    simp only [key] at h'
    exact h'
  · obtain⟨a,xs,e,hq,q⟩:=q1
    subst e
    obtain⟨u,rfl,ru⟩:=aS.one r1
    cases (show u=Value.ref a from ru)
    obtain⟨its,rv,pt,hz⟩:=I1.list hq
    refine call_enumerate_list (show s1.heap.IsList a its.toArray from pt.isList) fun h' he hit hsz hk => ?_
    refine wpAny_pyIter_enum (s:={ s1 with heap:=h' }) he ?_
    have I2:Inv X pins σ H1 { s1 with heap:=h' }:=I1.kept (t':=s1.toks) hk
    refine⟨s1.heap.objs.size + 1,[s1.heap.objs.size + 1,s1.heap.objs.size],_,_,H1,rfl,I2,yN (s1.heap.objs.size + 1) s1.heap.objs.size a,⟨⟨_,by simpa using he⟩,hit⟩,fun b hb => ?_,q hz⟩
    have hb':s1.heap.objs.size≤b:=by
      rcases List.mem_cons.mp hb with e|hb
      · rw [e];exact Nat.le_succ _
      · have:b=s1.heap.objs.size:=by simpa using hb
        rw [this];exact Nat.le_refl _
    exact I1.fpOk hb' (I1.hok.fresh hb')
theorem yO {K:PySem.W.Frag}{ρ:List Addr}{H:Hp}{n:Nat}{q:Addr}{l:List D}(hq : ρ[n]? = some q)(hz:(ga l).length≤sizeLine):oQ K ρ H (ItL K q) (ga l) (fun h=>h[n]? = some (.lst l)) where
  go:=fun ρ' H' hd' i d ex rh hh hi=>by
    have hq':=ex.get hq
    obtain⟨vs,hv,rvs⟩:=rh.cel n _ q hh hq'
    unfold ga at hi
    obtain⟨hil,hi2⟩:=List.getElem?_eq_some_iff.mp hi
    have hl:i < l.length:=by simpa using hil
    have hd:d=.tup [.int (i:Nat),l[i]]:=by rw [← hi2];simp
    subst hd
    obtain⟨v,hvi,rd⟩:=rvs.get (i:=i) (d:=l[i]) (by simp [hl])
    have sq:SqL K H' q vs:=SqL.of hv
    refine⟨⟨vs,v,sq,hvi⟩,fun x H2 y => ?_⟩
    obtain⟨q2,v2,rfl,hn,rfl,y⟩:=y
    have:=y vs sq
    rw [hvi] at this
    cases this
    have sm:=cm (o:=HO.tup [.int (i:Nat),v]) hn
    refine⟨sm,?_⟩
    simp only [RD]
    exact⟨q2,_,rfl,bi,RDs.cons (by simp only [RD]) (RDs.cons (rd.mono (Kp.same sm)) RDs.nil)⟩
  stop:=fun ρ' H' hd' ex rh hh=>by
    have hq':=ex.get hq
    obtain⟨vs,hv,rvs⟩:=rh.cel n _ q hh hq'
    exact⟨vs,SqL.of hv,by rw [← rvs.length];simp [ga]⟩
  sz:=hz
def Ec (K:PySem.W.Frag) (ρ:List Addr) (H:Hp) (σd:Sd) (σ:St) (r:Res D) (R:It→Hp→Prop):Prop:=match r with
  | .ok (.ref n) hd'=>match hd'[n]? with
    | some (.lst l)=>∀ J H' ρ',Ext ρ H ρ' H'→RS K ρ' H' σd hd' σ → oQ K ρ' H' J (ga l) (fun h=>h[n]? = some (.lst l))→R J H'
    | _=>False
  | _=>False
def Kr (K:PySem.W.Frag) (f:EF):TI:=fun σ H R=>∃ ρ σd hd,RS K ρ H σd hd σ ∧ Ec K ρ H σd σ (f σd hd) R
def MIE (X:Cx) (tg e:Expr) (f:EF):Prop:=PI X tg e (Kr X.K f)
theorem Ed {a:Expr} {f:EF} (hg:Gl X "enumerate") (hm:X.mg "enumerate" = none) (ha:ME X a f) (hs:starEach [a] X.env=[(false,eval a X.env)]:=by rfl):MIE X (.Tuple elts tk tp) (.Call (.Name "enumerate" p) [a] [] pos) f:=by
  refine PI.imp (Eb hg hm ha hs) fun σ H R ⟨ρ,σd,hd,rs,pp⟩=>⟨ρ,σd,hd,rs,?_⟩
  unfold Ec at pp
  cases e:f σd hd with
  | exc x h1=>rw [e] at pp;exact pp
  | bad=>rw [e] at pp;exact pp
  | ok d hd1 =>
    rw [e] at pp
    intro v H1 ρ1 ex1 rs1 rv
    cases d<;>try exact pp.elim
    rename_i n
    cases c1:hd1[n]? with
    | none=>simp only [c1] at pp
    | some cell =>
      simp only [c1] at pp
      cases cell with
      | dct l=>exact pp.elim
      | lst l =>
        simp only at pp
        simp only [rD,RD] at rv
        obtain⟨q,hq,rfl⟩:=rv
        obtain⟨vs,hv,rvs⟩:=rs1.hp.cel n _ q c1 hq
        exact⟨q,vs,rfl,SqL.of hv,fun hz=>pp _ H1 ρ1 ex1 rs1 (yO hq (by rw [show (ga l).length=vs.length by rw [← rvs.length];simp [ga]];exact hz))⟩
end
section
variable {X:Cx} {pos:Pos} {tg:Expr}
end
end Fm
set_option linter.all false
namespace Fm
end Fm
set_option Elab.async false
set_option linter.all false
set_option maxRecDepth 100000
namespace Fm
open PySem PySem.Spec L2
open PyProof.Rows (Call_)
section
variable {X:Cx} {pos p p2 pos2:Pos}
end
end Fm
set_option linter.all false
namespace Fm
end Fm
set_option linter.all false
namespace Fm
noncomputable section
open Classical
@[simp] def oX (nl:Nat) (caps:List Nat) (a:EF) (tg:GF) (cs:List TF) (e:EF):LF:=fun σ h=>match a σ h with
  | .ok (.ref n) h=>match h[n]? with
    | some (.lst l)=>eX (fun h=>h[n]? = some (.lst l)) tg cs e (ga l) (fX nl caps σ) h
    | _=>.bad
  | .ok _ _=>.bad
  | .exc x h=>.exc x h
  | .bad=>.bad
end
theorem oY {G:Hd→Prop}{tg:GF}{cs:List TF}{e:EF}{h:Hd}(I:Sd→Prop)(p:D→Bool)(f:D→D)(hh:G h) :
    ∀ {xs:List D} {σ:Sd},(∀ x∈xs,∀ σ,I σ → ∃ σ',tg x σ = some σ'∧I σ'∧gR cs σ' h=.ok (p x) h∧(p x=true→e σ' h=.ok (f x) h))→I σ →
      eX G tg cs e xs σ h=.ok ((xs.filter p).map f) h
  | [],_,_,_=>by simp [eX,hh]
  | x :: xs,σ,st,i=>by
    obtain⟨σ',h1,h2,h3,h4⟩:=st x (by simp) σ i
    have ih:=oY I p f hh (xs:=xs) (σ := σ') (fun y hy=>st y (by simp [hy])) h2
    cases hp:p x with
    | true=>simp [eX,hh,h1,h3,hp,h4 hp,ih]
    | false=>simp [eX,hh,h1,h3,hp,ih]
end Fm
set_option Elab.async false
set_option linter.all false
set_option maxRecDepth 100000
namespace Fm
open PySem PySem.Spec L2
section
variable {X:Cx} {pos:Pos} {scope:Scope} {own capn:List Str} {caps:List Nat}
theorem Ee {elt tg iter:Expr}{ifs:List Expr}{f:EF}{g:GF}{cs:List TF}{e:EF}(hc:X.calm=true)(S:bI X scope own capn caps)(hi:MIE X tg iter f)
    (hin:∀ cl C s H ex,MG (cxC X (own++capn) scope cl C s H ex) tg g∧MTs (cxC X (own++capn) scope cl C s H ex) ifs cs∧ME (cxC X (own++capn) scope cl C s H ex) elt e)
    (hs:∀ x,foldedSetIterable iter X.env x=pure x:=by intro _;rfl):MF X (.ListComp elt [⟨tg,iter,ifs,0⟩] scope pos) (oX own.length caps f g cs e):=by
  intro pins s σ H Q I ⟨ρ,σd,hd,rs,p⟩
  rw [eval_ListComp]
  unfold oX at p
  cases c:f σd hd with
  | exc z h7=>rw [c] at p;exact p.elim
  | bad=>rw [c] at p;exact p.elim
  | ok d hd1 =>
    rw [c] at p
    cases d<;>try exact p.elim
    rename_i n
    simp only at p
    cases c1:hd1[n]? with
    | none=>rw [c1] at p;exact p.elim
    | some cell =>
      rw [c1] at p
      cases cell with
      | dct l=>exact p.elim
      | lst l0 =>
        simp only at p
        obtain⟨cl,h1,hcl1,hcl2⟩:=ki (scope:=scope) (env:=X.env) fun y hy hyf=>I.ok.has y.1 (S.free y hy hyf)
        refine wpAny_comprehension_free (use:=none) rfl hs h1 S.kind S.names (thn (hi pins s σ H (fun J H1=>∃ ρ1,Ext ρ H ρ1 H1∧RS X.K ρ1 H1 σd hd1 σ ∧ oQ X.K ρ1 H1 J (ga l0) (fun h=>h[n]? = some (.lst l0))) I ⟨ρ,σd,hd,rs,by
          unfold Ec
          rw [c]
          simp only [c1]
          exact fun J H' ρ' ex rs' wk=>⟨ρ',ex,rs',wk⟩⟩) fun v s1 h1=>thn h1 fun itv s2 h2 => ?_)
        obtain⟨it,fp,tn,J,H1,rfl,I1,T,st0,hf,ρ1,ex1,rs1,wk⟩:=h2
        generalize hG:(fun h:Hd=>h[n]? = some (.lst l0))=G at p wk
        cases c2:eX G g cs e (ga l0) (fX own.length caps σd) hd1 with
        | exc z h7=>rw [c2] at p;exact p.elim
        | bad=>rw [c2] at p;exact p.elim
        | ok ds hdF =>
          rw [c2] at p
          refine lL (RR:=fun acc C=>compPost (model X.prog X.w) X.A X.xe none (EP X pins σ Q) acc C) hc S hin I1 T st0 hf rs1 wk hcl1 hcl2 c2 fun C s' m H' ρ' vs hC hn I' hCn ex rh hD0 hD hnD rds => ?_
          refine⟨m,hn,fun h' sb=>⟨.ref s2.heap.objs.size,H',?_,rfl,?_⟩⟩
          · refine I'.turned (it:=C) (t':=s'.toks) (fun b o hb e=>(sb.2 b hb).trans e) hCn ?_ (.inr (Nat.le_of_lt (Nat.lt_of_le_of_lt I1.sz hC))) (fun x c e z => ?_) fun q hq z => ?_
            · exact Nat.ne_of_gt (Nat.lt_trans I1.lt hC)
            · obtain⟨v,o,ho,hd⟩:=I1.cell x c e
              exact absurd (Nat.lt_trans (Heap.lt_size ho) hC) (by rw [z];exact Nat.lt_irrefl _)
            · exact absurd (Nat.lt_trans (Heap.lt_size (I1.pin q hq).1) hC) (by rw [z];exact Nat.lt_irrefl _)
          · exact p _ vs H' ρ' (ex1.trans ex) (rs.ext (ex1.trans ex) rh) (ex1.fresh hD0 (rs1.hp.free hD0)) hD hnD rds
end
section
variable {X:Cx}
end
end Fm
set_option linter.all false
namespace Fm
def fF (x e:EF):EF:=fun σ h=>(x σ h).bind fun p h=>match p with
  | .tup l=>(e σ h).bind fun d h=>if bY d && l.all bY then .ok (.int (l.countP fun z=>eqF z d)) h else .bad
  | _=>.bad
end Fm
set_option linter.all false
namespace Fm
def eR (a:EF) (lo hi:OF):EF:=fun σ h=>(a σ h).bind fun x h=>(lo σ h).bind fun i h=>(hi σ h).bind fun j h=>match x with
  | .tup l=>.ok (.tup (cut l i j)) h
  | _=>.bad
end Fm
set_option Elab.async false
set_option linter.all false
set_option maxRecDepth 100000
namespace HT
open PySem PySem.Spec PyProof.Rows L2
section
variable {prog:Program} {w:World} {A:Around} {E:Value→Shared→Prop} {s:Shared}
theorem getItem_tuple_whole {t sl:Addr}{items:Array Value}{vl vu:Value}{lo hi:Option Int}{Q:Value→Shared→Prop}(ht:IsTup s.heap t items)(hs:s.heap.IsSliceOf sl vl vu .none)(pl:IsPart vl lo)(pu:IsPart vu hi)
    (hw:sIx items.size 0 lo=0∧sIx items.size items.size hi=items.size) (h:Q (.ref t) s):wpAny (model prog w) A (getItem (.ref t) (.ref sl)) Q E s:=by
  obtain⟨os,hos,hcs,hds⟩:=id hs
  have hTs:s.TypeIs (.ref sl) "slice" := ⟨os,hos,hcs⟩
  unfold getItem
  try with_reducible refine wpAny_holding ?_
  first|refine wpAny_bind (wpAny_pure ?_)|skip
  refine wpAny_bind (wpAny_sequenceKey ht.typeIs (by decide) ?_)
  refine wpAny_bind (wpAny_callSpecial?_slot (name:=Str.ofString "__getitem__") ht.typeIs PyProof.Rows.slot_tuple_getitem
    (wpAny_call_entry PyProof.Rows.slot_tuple_getitem ht.typeIs entry_tuple_getitem ?_ (args_tuple_getitem _ _)))
  show wpAny _ _ (Builtin.Tuple.tupleItemsOf (.ref t) >>= _) _ _ s
  refine wpAny_bind (tupleItemsOf_ ht ?_)
  refine wpAny_bind (wpAny_typeOf hTs ?_)
  rw [if_pos (by decide)]
  refine wpAny_bind (gP hs pl pu ?_)
  have hyes:((((sIx items.size 0 lo:Nat):Int) == 0 && (1:Int) == 1 && (sIx items.size items.size hi - sIx items.size 0 lo) == items.size)=true):=by
    rw [hw.1,hw.2];simp
  show wpAny _ _ (if (((sIx items.size 0 lo:Nat):Int) == 0 && (1:Int) == 1 && (sIx items.size items.size hi - sIx items.size 0 lo) == items.size)=true then _ else _) _ _ s
  rw [if_pos hyes]
  refine wpAny_bind ?_
  unfold Builtin.Tuple.tupleIsExact
  refine wpAny_bind (wpAny_typeOf ht.typeIs (wpAny_pure ?_))
  rw [if_pos (by decide)]
  refine wpAny_bind (wpAny_rule ?_)
  first
    | exact wpAny_pure ⟨_,rfl,wpAny_pure h⟩
    | exact wpAny_bind (wpAny_pure ⟨_,rfl,wpAny_pure h⟩)
    | exact wpAny_bind (wpAny_pure (wpAny_pure ⟨_,rfl,wpAny_pure h⟩))
end
end HT
namespace Fm
open PySem PySem.Spec L2 PySem.W PyProof.Rows
section
variable {X:Cx} {pos p:Pos}
def Ks (K:PySem.W.Frag):V→Option Int→Option Int→Hp→VK→Prop:=fun x lo hi H Q=>∃ a xs,x=.ref a∧SqT K H a xs ∧
  ((HT.sIx xs.length 0 lo=0∧HT.sIx xs.length xs.length hi=xs.length)→Q (.ref a) H) ∧
  (¬ (HT.sIx xs.length 0 lo=0∧HT.sIx xs.length xs.length hi=xs.length) → ∀ p,H p=none→Q (.ref p) (upd H p (.tup (lG xs lo hi))))
theorem Gz:SlR X (Ks X.K):=by
  intro pins s σ H x v vl vu lo hi sl Q I rx hs pl pu h
  obtain⟨a,xs,rfl,hx,q1,q2⟩:=h
  by_cases hw:HT.sIx xs.length 0 lo=0∧HT.sIx xs.length xs.length hi=xs.length
  · cases rx
    obtain⟨its,r,ht,hz⟩:=I.tuple hx
    have hlen:its.toArray.size=xs.length:=by rw [List.size_toArray];exact r.length.symm
    refine⟨"tuple",_,PyProof.Rows.slot_tuple_getitem.lookup,ht.typeIs,?_⟩
    exact HT.getItem_tuple_whole ht hs pl pu (by rw [hlen];exact hw) ⟨.ref a,H,I,rfl,q1 hw⟩
  · exact DE pins s σ H _ v vl vu lo hi sl Q I rx hs pl pu ⟨a,xs,rfl,hx,hw,q2 hw⟩
theorem B7 {l:List D}{i j:Option Int}(h:sIx l.length 0 i=0∧sIx l.length l.length j=l.length):cut l i j=l:=by
  unfold cut
  rw [h.1,h.2];simp
theorem B8 {a:Expr}{fa:EF}{lo hi:Option Expr}{fl fh:OF}{p2:Pos}(ha:ME X a fa)(hl:MO X lo fl)(hh:MO X hi fh):ME X (.Subscript a (.Slice lo hi none p2) pos) (eR fa fl fh):=by
  refine PE.imp (wo Gz ha hl hh) fun σ H Q ⟨ρ,σd,hd,rs,pp⟩ => ?_
  unfold eR at pp
  refine⟨ρ,σd,hd,rs,(bw.bind (R:=rD X.K) pp).imp fun v H1 ⟨ρ1,d,hd1,e1,rs1,rv,p1⟩ => ?_⟩
  refine⟨ρ1,σd,hd1,rs1,(bw.bind (R:=rO) p1).imp fun o1 H2 ⟨ρ2,o1',hd2,e2,rs2,q2,p2⟩ => ?_⟩
  cases q2
  refine⟨ρ2,σd,hd2,rs2,(bw.bind (R:=rO) p2).imp fun o2 H3 ⟨ρ3,o2',hd3,e3,rs3,q3,p3⟩ => ?_⟩
  cases q3
  have rv3:=(rv.mono (rs1.hp.kp e2)).mono (rs2.hp.kp e3)
  cases d with
  | tup l =>
    simp only at p3
    simp only [RD] at rv3
    obtain⟨q,vs,rfl,hq,rvs⟩:=rv3
    have e:∀ (n d:Nat) (o:Option Int),Fm.sIx n d o=HT.sIx n d o:=fun n d o=>by cases o<;>rfl
    refine⟨q,vs,rfl,SqT.of hq,fun hw => ?_,fun _ q' hq' => ?_⟩
    · rw [← rvs.length,← e,← e] at hw
      rw [B7 hw] at p3
      exact p3.here rs3 (by simp only [rD,RD];exact⟨q,vs,rfl,hq,rvs⟩)
    · have sm:=cm (o:=HO.tup (lG vs o1 o2)) hq'
      exact p3.at (Ext.same sm) (rs3.same sm) (by simp only [rD,RD];exact⟨q',_,rfl,bi,(tY rvs).mono (Kp.same sm)⟩)
  | _=>exact p3.elim
def GA (to:TE) (t:L2.St→Hp→(List V→Hp→Prop)→Prop):TE:=fun σ H Q=>to σ H fun x H1=>∃ a xs,x=.ref a∧H1 a=some (.tup xs)∧t σ H1 fun vs H2=>∃ y,vs=[y]∧H2 a=some (.tup xs)∧fU y=true∧xs.all fU=true∧Q (.int (xs.countP fun z=>eqV z y)) H2
theorem B9 {o e:Expr}{apos cpos:Pos}{to:TE}{t:L2.St→Hp→(List V→Hp→Prop)→Prop}(ho:PE X o to)(ha:PA X [e] t)
    (hbase:attributeBase o "count" X.env (eval o X.env)=eval o X.env:=by rfl)
    (hfew:((backTo cpos (starEach [e] X.env)).all (fun x => !x.1) && (backToKw cpos (keywordEach [] X.env)).all (fun x=>x.1.isSome)
      && decide (([e] : List Expr).length + ([] : List Keyword).length + (if ([] : List Keyword).isEmpty then 0 else 1) < 30))=true:=by rfl)
    (hline:(apos.endLine == cpos.line)=true:=by rfl) (hs:starEach [e] X.env=(false,eval e X.env) :: starEach [] X.env:=by rfl) (hplain:(backTo cpos (starEach [] X.env)).any (·.1)=false:=by rfl) :
    PE X (.Call (.Attribute o "count" apos) [e] [] cpos) (GA to t):=by
  intro pins s σ H Q I h
  refine wpAny_Call_method_late hbase hfew hline rfl (thn (ho pins s σ H _ I h) fun v s1 ⟨x,H1,I1,r1,a,xs,ex,hx,q1⟩ => ?_)
  subst ex
  obtain rfl:v=Value.ref a:=r1
  obtain⟨its,ob,c,rv,ho',hc,hd,hn⟩:=A6 I1.hok hx
  refine⟨"tuple", "tuple.count",PySem.F.plainAttrs_tuple,PySem.F.slot_tuple_count,PySem.F.type_tuple_count,⟨ob,ho',hc⟩,(fun b q=>by cases q;exact⟨ob,ho',hn⟩),?_⟩
  have hA:=ha cpos pins s1 σ H1 _ I1 q1
  rw [hs] at hA ⊢
  refine Calls.callWith_builtin (by show (false || (backTo cpos (starEach [] X.env)).any (·.1))=false;rw [hplain]<;>rfl) (Calls.evalArgs_plain ?_)
  refine thn hA fun us s2 ⟨vs,H2,I2,r2,y,ey,hx2,fy,fs,q⟩ => ?_
  subst ey
  obtain⟨u,rfl,ru⟩:=r2.one
  obtain⟨its2,ob2,c2,rv2,ho2,hc2,hd2,hn2⟩:=A6 I2.hok hx2
  obtain⟨cc,dd,dt,sl⟩:=ob2
  replace hc2:cc=.type "tuple" := hc2
  replace hd2:dt=.seq its2.toArray c2:=hd2
  subst hc2 hd2
  refine call_meets F.slot_tuple_count ⟨_,ho2,rfl⟩ F.entry_tuple_count (F.args_tuple_count_2 _ _) (SeqAt.tuple_countAt a its2.toArray c2 dd sl u (eqU y)) ⟨ho2,fun w hw=>fV ru fy rv2 fs w (by simpa using hw),?_⟩
  refine⟨.int _,H2,I2.tok _,⟨_,rfl⟩,?_⟩
  rw [show (its2.toArray.toList.countP (eqU y))=xs.countP fun z=>eqV z y from yJ rv2 fs]
  exact q
theorem Ca {o e:Expr} {fo fe:EF} {apos cpos:Pos} (ho:ME X o fo) (he:ME X e fe) (hbase:attributeBase o "count" X.env (eval o X.env)=eval o X.env:=by rfl)
    (hfew:((backTo cpos (starEach [e] X.env)).all (fun x => !x.1) && (backToKw cpos (keywordEach [] X.env)).all (fun x=>x.1.isSome)
      && decide (([e] : List Expr).length + ([] : List Keyword).length + (if ([] : List Keyword).isEmpty then 0 else 1) < 30))=true:=by rfl)
    (hline:(apos.endLine == cpos.line)=true:=by rfl) (hs:starEach [e] X.env=(false,eval e X.env) :: starEach [] X.env:=by rfl) (hplain:(backTo cpos (starEach [] X.env)).any (·.1)=false:=by rfl) :
    ME X (.Call (.Attribute o "count" apos) [e] [] cpos) (fF fo fe):=by
  refine PE.imp (B9 ho (bX he df hs) hbase hfew hline hs hplain) fun σ H Q ⟨ρ,σd,hd,rs,pp⟩=>⟨ρ,σd,hd,rs,?_⟩
  unfold fF at pp
  refine (bw.bind (R:=rD X.K) pp).imp fun v H1 ⟨ρ1,d,hd1,e1,rs1,rv,p1⟩ => ?_
  cases d with
  | tup l =>
    simp only at p1
    have rv0:=rv
    simp only [rD,RD] at rv
    obtain⟨q,vs,rfl,hq,rvs⟩:=rv
    refine⟨q,vs,rfl,hq,ρ1,σd,hd1,rs1,(bw.bind (R:=rD X.K) p1).imp fun w H2 ⟨ρ2,k,hd2,e2,rs2,rw',p2⟩ => ?_⟩
    split at p2
    · rename_i hf
      rw [Bool.and_eq_true] at hf
      have kp:=rs1.hp.kp e2
      have rvs2:=rvs.mono kp
      have hq2:H2 q=some (.tup vs):=kp.tup q vs hq
      refine⟨w,rfl,hq2,kO rw' hf.1,jL rvs2 hf.2,?_⟩
      rw [← lM rw' hf.1 rvs2 hf.2]
      exact p2.here rs2 (by simp only [rD,RD])
    · exact p2.elim
  | _=>exact p1.elim
end
end Fm
set_option linter.all false
namespace Fm
def yP (x:Int):List Int→List Int
  | []=>[x]
  | y :: r=>if x≤y then x :: y :: r else y :: yP x r
def jd:List Int→List Int
  | []=>[]
  | x :: r=>yP x (jd r)
theorem lR (x:Int):∀ r,(yP x r).Perm (x :: r)
  | []=>.refl _
  | y :: r=>by
    unfold yP
    split
    · exact .refl _
    · exact ((lR x r).cons y).trans (.swap x y r)
theorem iu:∀ r,(jd r).Perm r
  | []=>.refl _
  | x :: r=>(lR x _).trans ((iu r).cons x)
theorem sA {x:Int}:∀ {r:List Int},r.Pairwise (· ≤ ·)→(yP x r).Pairwise (· ≤ ·)
  | [],_=>by simp [yP]
  | y :: r,h=>by
    obtain⟨h1,h2⟩:=List.pairwise_cons.mp h
    unfold yP
    split
    · rename_i c
      refine List.pairwise_cons.mpr ⟨fun b hb => ?_,h⟩
      rcases List.mem_cons.mp hb with e|hb
      · rw [e];exact c
      · exact Int.le_trans c (h1 b hb)
    · rename_i c
      refine List.pairwise_cons.mpr ⟨fun b hb => ?_,sA h2⟩
      rcases List.mem_cons.mp ((lR x r).mem_iff.mp hb) with e|hb
      · rw [e];omega
      · exact h1 b hb
theorem kl:∀ {r:List Int},(jd r).Pairwise (· ≤ ·)
  | []=>by simp [jd]
  | x :: r=>sA kl
theorem Cb {a r:List Int}(p:a.Perm r)(h:a.Pairwise (· ≤ ·)):a=jd r :=
  List.Perm.eq_of_pairwise (fun x y _ _ h h'=>Int.le_antisymm h h') h kl (p.trans (iu r).symm)
end Fm
set_option linter.all false
namespace Fm
noncomputable section
open Classical
@[simp] def oZ (h:Hd):D→Option (List D × Option Nat)
  | .tup l=>some (l,none)
  | .ref n=>match h[n]? with|some (.lst l)=>some (l,some n)|_=>none
  | _=>none
@[simp] def wH (a b:EF) (tg:GF) (body:SF):SF:=fun σ h=>match a σ h with
  | .ok x h1=>match b σ h1 with
    | .ok y h2=>match oZ h2 x,oZ h2 y with
      | some (l,o),some (k,o')=>lQ (fun h=>dl o l h∧dl o' k h) tg body ((l.zip k).map fun p=>.tup [p.1,p.2]) σ h2
      | _,_=>.bad
    | .exc x h=>.exc x σ h
    | .bad=>.bad
  | .exc x h=>.exc x σ h
  | .bad=>.bad
end
end Fm
set_option Elab.async false
set_option linter.all false
set_option maxRecDepth 100000
namespace Fm
open PySem PySem.Spec L2
open PyProof.Rows (Call_)
def itN:Bool→String
  | true => "list_iterator"
  | false => "tuple_iterator"
def It2:Bool→Heap→Addr→Addr→Nat→Prop
  | true,h,i,l,k=>h.IsListIter i l k
  | false,h,i,l,k=>h.IsTupleIter i l k
def Sq2:Bool→Heap→Addr→Array Value→Prop
  | true,h,l,xs=>h.IsList l xs
  | false,h,l,xs=>h.IsTuple l xs
def SqM:Bool→PySem.W.Frag→Hp→Addr→List V→Prop
  | true,K,H,a,xs=>SqL K H a xs
  | false,K,H,a,xs=>SqT K H a xs
theorem It2.mk {L:Bool}{h:Heap}{i l:Addr}(e:h.get? i=some { cls:=.type (itN L),data:=.fields #[.ref l,.int 0 0] }):It2 L h i l 0:=by
  cases L
  · exact⟨_,e,rfl,rfl⟩
  · exact⟨_,e,rfl,rfl⟩
theorem It2.obj {L:Bool}{h:Heap}{i l:Addr}{k:Nat}(t:It2 L h i l k):∃ o,h.get? i=some o ∧ ∀ v,o.data ≠ .cell v:=by
  cases L
  · obtain⟨o,q,c,d⟩:=t
    exact⟨o,q,fun v e=>by rw [d] at e;cases e⟩
  · obtain⟨o,q,c,d⟩:=t
    exact⟨o,q,fun v e=>by rw [d] at e;cases e⟩
theorem It2.at {L:Bool}{h h':Heap}{i l:Addr}{k:Nat}(t:It2 L h i l k)(kk:∀ o,h.get? i=some o→h'.get? i=some o):It2 L h' i l k:=by
  cases L
  · obtain⟨o,q,r⟩:=t
    exact⟨o,kk o q,r⟩
  · obtain⟨o,q,r⟩:=t
    exact⟨o,kk o q,r⟩
theorem It2.extBut {L:Bool}{h h':Heap}{a b l:Addr}{k:Nat}(t:It2 L h a l k)(e:Heap.ExtBut b h h')(n:a≠b):It2 L h' a l k:=t.at fun o q=>e _ _ n q
theorem Sq2.lt {L:Bool}{h:Heap}{l:Addr}{xs:Array Value}(t:Sq2 L h l xs):l < h.objs.size:=by
  cases L
  · obtain⟨o,q,_⟩:=t
    exact Heap.lt_size q
  · obtain⟨o,q,_⟩:=t
    exact Heap.lt_size q
theorem iw {L:Bool}{h h':Heap}{i l:Addr}{xs:Array Value}(t:Sq2 L h l xs)(e:Heap.ExtBut i h h')(n:l≠i):Sq2 L h' l xs:=by
  cases L
  · obtain⟨o,ho,r⟩:=t
    exact⟨o,e _ _ n ho,r⟩
  · obtain⟨o,ho,r⟩:=t
    exact⟨o,e _ _ n ho,r⟩
theorem lS {L:Bool}{X:Cx}{pins:List (Addr × Obj)}{σ:St}{H:Hp}{s:Shared}{a:Addr}{xs:List V}(I:L2.Inv X pins σ H s)(h:SqM L X.K H a xs):∃ its,aS xs its∧Sq2 L s.heap a its.toArray∧xs.length≤sizeLine:=by
  cases L
  · exact I.tuple h
  · obtain⟨its,r,p,z⟩:=I.list h
    exact⟨its,r,p.isList,z⟩
theorem Be {L:Bool}{X:Cx}{pins:List (Addr × Obj)}{σ:St}{H:Hp}{s:Shared}{a:Addr}{xs ys:List V}(I:L2.Inv X pins σ H s)(h:SqM L X.K H a xs)(h':SqM L X.K H a ys):xs=ys:=by
  cases L
  · exact I.tuple_inj h h'
  · exact I.list_inj h h'
section
variable {prog:Program} {w:World} {A:Around} {E:Value→Shared→Prop} {s:Shared}
theorem kn {L:Bool}{it l:Addr}{i:Nat}{items:Array Value}{x:Value}{Q:Value→Shared→Prop}(t:It2 L s.heap it l i)(u:Sq2 L s.heap l items)(hx:items[i]? = some x)
    (q:∀ h',It2 L h' it l (i + 1)→Heap.SameBut it s.heap h'→Q x { s with heap:=h' }):wpAny (model prog w) A (Builtin.SmallTypes.nextOf (.ref it)) Q E s:=by
  cases L
  · exact gn t u hx q
  · exact wpAny_nextOf_list_item t u hx q
theorem sB {L:Bool}{it l:Addr}{i:Nat}{items:Array Value}{Q:Value→Shared→Prop}(hh:A.handled=none)(t:It2 L s.heap it l i)(u:Sq2 L s.heap l items)(hx:items[i]? = none)
    (hE:∀ h' e,Heap.ExtBut it s.heap h'→(∃ o,h'.get? e=some o∧o.cls=.type "StopIteration")→E (.ref e) { s with heap:=h' }):wpAny (model prog w) A (Builtin.SmallTypes.nextOf (.ref it)) Q E s:=by
  cases L
  · exact gU hh t u hx hE
  · exact wpAny_nextOf_list_end hh t u hx hE
end
section
variable {La Lb:Bool} {prog:Program} {w:World} {A:Around} {E:Value→Shared→Prop} {s:Shared} {z TI TO i1 i2 l1 l2:Addr} {k:Nat} {xs ys:Array Value} {a b:Value}
theorem Cc {x y:Value}{Q:Value→Shared→Prop}(Z:ZipApart z TI TO i1 i2 l1 l2)(gz:IsZip s.heap z TI TO .none)(gI:IsPair s.heap TI (.ref i1) (.ref i2))(gO:IsPair s.heap TO a b)
    (t1:It2 La s.heap i1 l1 k) (t2:It2 Lb s.heap i2 l2 k) (u1:Sq2 La s.heap l1 xs) (u2:Sq2 Lb s.heap l2 ys) (ex:xs[k]? = some x) (ey:ys[k]? = some y)
    (q:∀ h',IsZip h' z TI TO (rawInt s.heap.objs.size)→IsPair h' TO x y→It2 La h' i1 l1 (k + 1)→It2 Lb h' i2 l2 (k + 1)→IsPair h' s.heap.objs.size x y→h'.objs.size=s.heap.objs.size + 1 →
      (∀ c o,c≠z→c≠TO→c≠i1→c≠i2→s.heap.get? c=some o→h'.get? c=some o)→Q (.ref s.heap.objs.size) { s with heap:=h' }) :
    wpAny (model prog w) A (Builtin.«zip.__next__» ⟨[.ref z],[]⟩) (fun fin s'=>∃ v,fin=.done (.ret v)∧Q v s') E s:=by
  show wpAny _ _ (field (.ref z) 2 >>= fun _=>_) _ _ _
  refine wpAny_bind (wpAny_field gz rfl (x:=.bool false) rfl ?_)
  show wpAny _ _ (field (.ref z) 3 >>= fun _=>_) _ _ _
  refine wpAny_bind (wpAny_field gz rfl (x:=.ref TI) rfl (wpAny_bind (wpAny_seqItems gI rfl ?_)))
  show wpAny _ _ (Builtin.SmallTypes.ownedTupleIsFree (.ref z) >>= fun _=>_) _ _ _
  unfold Builtin.SmallTypes.ownedTupleIsFree
  refine wpAny_bind (wpAny_bind (wpAny_field gz rfl (x:=.none) rfl (wpAny_pure ?_)))
  simp only [if_true]
  refine wpAny_bind (wpAny_rule (wpAny_bind (wpAny_field gz rfl (x:=.ref TO) rfl (wpAny_bind (wpAny_setField_rec gz (by simp) fun g1 gz1 b1=>wpAny_bind ?_)))))
  replace gz1:IsZip g1 z TI TO .ellipsis:=gz1
  simp only [List.zipIdx_cons,List.zipIdx_nil,List.forIn_cons,List.forIn_nil]
  refine wpAny_bind (wpAny_bind (wpAny_onRaise ?_))
  show wpAny _ _ (Builtin.SmallTypes.nextOf (.ref i1) >>= fun _=>_) _ _ _
  refine wpAny_bind (kn (t1.extBut b1.extBut Z.i1z) (iw u1 b1.extBut Z.l1z) ex fun g2 t12 b2=>wpAny_pure ?_)
  have gO2:IsPair g2 TO a b:=b2.extBut _ _ Z.TOi1 (b1.extBut _ _ Z.TOz gO)
  refine wpAny_bind (wpAny_seqItems gO2 rfl (wpAny_bind (wpAny_updateSeq_pair gO2 fun g3 gO3 b3=>wpAny_bind (wpAny_letGo (wpAny_pure ?_)))))
  replace gO3:IsPair g3 TO x b:=gO3
  refine wpAny_bind (wpAny_bind (wpAny_onRaise ?_))
  show wpAny _ _ (Builtin.SmallTypes.nextOf (.ref i2) >>= fun _=>_) _ _ _
  refine wpAny_bind (kn (((t2.extBut b1.extBut Z.i2z).extBut b2.extBut Z.i12.symm).extBut b3.extBut Z.TOi2.symm) (iw (iw (iw u2 b1.extBut Z.l2z) b2.extBut Z.l2i1) b3.extBut Z.l2TO) ey fun g4 t24 b4=>wpAny_pure ?_)
  have gO4:IsPair g4 TO x b:=b4.extBut _ _ Z.TOi2 gO3
  refine wpAny_bind (wpAny_seqItems gO4 rfl (wpAny_bind (wpAny_updateSeq_pair gO4 fun g5 gO5 b5=>wpAny_bind (wpAny_letGo (wpAny_pure (wpAny_pure ?_))))))
  replace gO5:IsPair g5 TO x y:=gO5
  refine wpAny_bind (wpAny_seqItems gO5 rfl (wpAny_bind (wpAny_newTuple ?_)))
  have sz:g5.objs.size=s.heap.objs.size:=by rw [b5.1,b4.1,b3.1,b2.1,b1.1]
  have gz5:IsZip g5 z TI TO .ellipsis:=b5.extBut _ _ Z.TOz.symm (b4.extBut _ _ Z.i2z.symm (b3.extBut _ _ Z.TOz.symm (b2.extBut _ _ Z.i1z.symm gz1)))
  have kp:∀ c o,c≠z→c≠TO→c≠i1→c≠i2→s.heap.get? c=some o→g5.get? c=some o:=fun c o n1 n2 n3 n4 e=>b5.extBut _ _ n2 (b4.extBut _ _ n4 (b3.extBut _ _ n2 (b2.extBut _ _ n3 (b1.extBut _ _ n1 e))))
  have t15:It2 La g5 i1 l1 (k + 1):=((t12.extBut b3.extBut Z.TOi1.symm).extBut b4.extBut Z.i12).extBut b5.extBut Z.TOi1.symm
  have t25:It2 Lb g5 i2 l2 (k + 1):=t24.extBut b5.extBut Z.TOi2.symm
  have zl:z < g5.objs.size:=Heap.lt_size gz5
  show wpAny _ _ (Builtin.SmallTypes.ownedTupleHandOut (.ref z) (.ref g5.objs.size) >>= fun _=>_) _ _ _
  unfold Builtin.SmallTypes.ownedTupleHandOut
  have gz6:IsZip (g5.push { cls:=.type "tuple",data:=.seq #[x,y] }) z TI TO .ellipsis:=Heap.get?_push_of_some _ gz5
  refine wpAny_bind (wpAny_bind (wpAny_setField_rec gz6 (by simp) fun g7 gz7 b7 => ?_))
  replace gz7:IsZip g7 z TI TO (rawInt g5.objs.size):=gz7
  refine wpAny_setField_rec gz7 (by simp) fun g8 gz8 b8 => ?_
  replace gz8:IsZip g8 z TI TO (rawInt g5.objs.size):=gz8
  have up:∀ c o,c≠z→g5.get? c=some o→g8.get? c=some o:=fun c o n1 e=>b8.extBut _ _ n1 (b7.extBut _ _ n1 (Heap.get?_push_of_some _ e))
  have gT:IsPair g8 g5.objs.size x y:=b8.extBut _ _ (Nat.ne_of_gt zl) (b7.extBut _ _ (Nat.ne_of_gt zl) (Heap.get?_push_size _ rfl))
  have s8:g8.objs.size=g5.objs.size + 1:=by rw [b8.1,b7.1,Heap.size_push]
  rw [sz] at gz8 gT s8
  refine wpAny_pure ⟨_,rfl,?_⟩
  show Q (.ref g5.objs.size) _
  rw [sz]
  exact q g8 gz8 (up _ _ Z.TOz gO5) (t15.at fun o e=>up _ o Z.i1z e) (t25.at fun o e=>up _ o Z.i2z e) gT s8 fun c o n1 n2 n3 n4 e=>up c o n1 (kp c o n1 n2 n3 n4 e)
theorem Ef {Q:Fin→Shared→Prop}(hh:A.handled=none)(Z:ZipApart z TI TO i1 i2 l1 l2)(gz:IsZip s.heap z TI TO .none)(gI:IsPair s.heap TI (.ref i1) (.ref i2))(gO:IsPair s.heap TO a b)
    (t1:It2 La s.heap i1 l1 k) (t2:It2 Lb s.heap i2 l2 k) (u1:Sq2 La s.heap l1 xs) (u2:Sq2 Lb s.heap l2 ys) (nd:xs[k]? = none∨ys[k]? = none)
    (q:∀ h' e,(∀ c o,c≠z→c≠TO→c≠i1→c≠i2→s.heap.get? c=some o→h'.get? c=some o)→(∃ o,h'.get? e=some o∧o.cls=.type "StopIteration")→E (.ref e) { s with heap:=h' }) :
    wpAny (model prog w) A (Builtin.«zip.__next__» ⟨[.ref z],[]⟩) Q E s:=by
  show wpAny _ _ (field (.ref z) 2 >>= fun _=>_) _ _ _
  refine wpAny_bind (wpAny_field gz rfl (x:=.bool false) rfl ?_)
  show wpAny _ _ (field (.ref z) 3 >>= fun _=>_) _ _ _
  refine wpAny_bind (wpAny_field gz rfl (x:=.ref TI) rfl (wpAny_bind (wpAny_seqItems gI rfl ?_)))
  show wpAny _ _ (Builtin.SmallTypes.ownedTupleIsFree (.ref z) >>= fun _=>_) _ _ _
  unfold Builtin.SmallTypes.ownedTupleIsFree
  refine wpAny_bind (wpAny_bind (wpAny_field gz rfl (x:=.none) rfl (wpAny_pure ?_)))
  simp only [if_true]
  refine wpAny_bind (wpAny_rule (wpAny_bind (wpAny_field gz rfl (x:=.ref TO) rfl (wpAny_bind (wpAny_setField_rec gz (by simp) fun g1 gz1 b1=>wpAny_bind ?_)))))
  replace gz1:IsZip g1 z TI TO .ellipsis:=gz1
  simp only [List.zipIdx_cons,List.zipIdx_nil,List.forIn_cons,List.forIn_nil]
  refine wpAny_bind (wpAny_bind (wpAny_onRaise ?_))
  show wpAny _ _ (Builtin.SmallTypes.nextOf (.ref i1) >>= fun _=>_) _ _ _
  cases ex:xs[k]? with
  | none =>
    refine wpAny_bind (sB hh (t1.extBut b1.extBut Z.i1z) (iw u1 b1.extBut Z.l1z) ex fun g2 e b2 he => ?_)
    obtain⟨oe,ho,hc⟩:=he
    have gz2:IsZip g2 z TI TO .ellipsis:=b2 _ _ Z.i1z.symm gz1
    have ne:e≠z:=fun v=>by subst v;rw [gz2] at ho;cases ho;simp at hc
    exact wpAny_setField_rec gz2 (by simp) fun g3 _ b3=>q g3 e (fun c o n1 _ n3 _ v=>b3.extBut _ _ n1 (b2 _ _ n3 (b1.extBut _ _ n1 v))) ⟨oe,b3.extBut _ _ ne ho,hc⟩
  | some x =>
    have ey:ys[k]? = none:=nd.resolve_left (by rw [ex];exact Option.some_ne_none _)
    refine wpAny_bind (kn (t1.extBut b1.extBut Z.i1z) (iw u1 b1.extBut Z.l1z) ex fun g2 t12 b2=>wpAny_pure ?_)
    have gO2:IsPair g2 TO a b:=b2.extBut _ _ Z.TOi1 (b1.extBut _ _ Z.TOz gO)
    refine wpAny_bind (wpAny_seqItems gO2 rfl (wpAny_bind (wpAny_updateSeq_pair gO2 fun g3 gO3 b3=>wpAny_bind (wpAny_letGo (wpAny_pure ?_)))))
    refine wpAny_bind (wpAny_bind (wpAny_onRaise ?_))
    show wpAny _ _ (Builtin.SmallTypes.nextOf (.ref i2) >>= fun _=>_) _ _ _
    refine wpAny_bind (sB hh (((t2.extBut b1.extBut Z.i2z).extBut b2.extBut Z.i12.symm).extBut b3.extBut Z.TOi2.symm) (iw (iw (iw u2 b1.extBut Z.l2z) b2.extBut Z.l2i1) b3.extBut Z.l2TO) ey fun g4 e b4 he => ?_)
    obtain⟨oe,ho,hc⟩:=he
    have gz4:IsZip g4 z TI TO .ellipsis:=b4 _ _ Z.i2z.symm (b3.extBut _ _ Z.TOz.symm (b2.extBut _ _ Z.i1z.symm gz1))
    have ne:e≠z:=fun v=>by subst v;rw [gz4] at ho;cases ho;simp at hc
    exact wpAny_setField_rec gz4 (by simp) fun g5 _ b5=>q g5 e (fun c o n1 n2 n3 n4 v=>b5.extBut _ _ n1 (b4 _ _ n4 (b3.extBut _ _ n2 (b2.extBut _ _ n3 (b1.extBut _ _ n1 v))))) ⟨oe,b5.extBut _ _ ne ho,hc⟩
theorem uc {x y:Value}{Q:Option Value→Shared→Prop}(Z:ZipApart z TI TO i1 i2 l1 l2)(gz:IsZip s.heap z TI TO .none)(gI:IsPair s.heap TI (.ref i1) (.ref i2))(gO:IsPair s.heap TO a b)
    (t1:It2 La s.heap i1 l1 k) (t2:It2 Lb s.heap i2 l2 k) (u1:Sq2 La s.heap l1 xs) (u2:Sq2 Lb s.heap l2 ys) (ex:xs[k]? = some x) (ey:ys[k]? = some y)
    (q:∀ h',IsZip h' z TI TO (rawInt s.heap.objs.size)→IsPair h' TO x y→It2 La h' i1 l1 (k + 1)→It2 Lb h' i2 l2 (k + 1)→IsPair h' s.heap.objs.size x y→h'.objs.size=s.heap.objs.size + 1 →
      (∀ c o,c≠z→c≠TO→c≠i1→c≠i2→s.heap.get? c=some o→h'.get? c=some o)→Q (some (.ref s.heap.objs.size)) { s with heap:=h' }) :
    wpAny (model prog w) A (pyNext (.ref z)) Q E s:=by
  have ty:s.TypeIs (.ref z) "zip" := ⟨_,gz,rfl⟩
  unfold pyNext
  refine wpAny_bind (wpAny_attempt (wpAny_callSpecial?_slot (name:=Str.ofString "__next__") ty F.slot_zip_next (wpAny_call_entry F.slot_zip_next ty F.entry_zip_next ?_ (F.args_zip_next_1 _))))
  exact Cc Z gz gI gO t1 t2 u1 u2 ex ey fun h' a1 a2 a3 a4 a5 a6 a7=>wpAny_pure (q h' a1 a2 a3 a4 a5 a6 a7)
theorem wI {Q:Option Value→Shared→Prop}(hh:A.handled=none)(Z:ZipApart z TI TO i1 i2 l1 l2)(gz:IsZip s.heap z TI TO .none)(gI:IsPair s.heap TI (.ref i1) (.ref i2))(gO:IsPair s.heap TO a b)
    (t1:It2 La s.heap i1 l1 k) (t2:It2 Lb s.heap i2 l2 k) (u1:Sq2 La s.heap l1 xs) (u2:Sq2 Lb s.heap l2 ys) (nd:xs[k]? = none∨ys[k]? = none)
    (q:∀ h',(∀ c o,c≠z→c≠TO→c≠i1→c≠i2→s.heap.get? c=some o→h'.get? c=some o)→Q none { s with heap:=h' }):wpAny (model prog w) A (pyNext (.ref z)) Q E s:=by
  have ty:s.TypeIs (.ref z) "zip" := ⟨_,gz,rfl⟩
  unfold pyNext
  refine wpAny_bind (wpAny_attempt (wpAny_callSpecial?_slot (name:=Str.ofString "__next__") ty F.slot_zip_next (wpAny_call_entry F.slot_zip_next ty F.entry_zip_next ?_ (F.args_zip_next_1 _))))
  refine Ef hh Z gz gI gO t1 t2 u1 u2 nd fun h' e kk he => ?_
  obtain⟨o,ho,hc⟩:=he
  exact wpAny_bind (wpAny_isInstance (T := "StopIteration") (b:=true) ⟨o,ho,hc⟩ isSubtype_stop (wpAny_pure (q _ kk)))
end
def zm1 (La:Bool) (h:Heap) (l1:Addr):Heap:=h.push { cls:=.type (itN La),data:=.fields #[.ref l1,.int 0 0] }
def zm2 (La Lb:Bool) (h:Heap) (l1 l2:Addr):Heap:=(zm1 La h l1).push { cls:=.type (itN Lb),data:=.fields #[.ref l2,.int 0 0] }
def zm3 (La Lb:Bool) (h:Heap) (l1 l2:Addr):Heap:=(zm2 La Lb h l1 l2).push { cls:=.type "tuple",data:=.seq #[.ref h.objs.size,.ref (zm1 La h l1).objs.size] }
def zm4 (La Lb:Bool) (h:Heap) (l1 l2:Addr):Heap:=(zm3 La Lb h l1 l2).push { cls:=.type "tuple",data:=.seq #[.none,.none] }
def zm5 (La Lb:Bool) (h:Heap) (l1 l2:Addr):Heap:=(zm4 La Lb h l1 l2).push { cls:=.type "zip",data:=.fields #[.none,.bool false,.bool false,.ref (zm2 La Lb h l1 l2).objs.size,.ref (zm3 La Lb h l1 l2).objs.size] }
set_option maxHeartbeats 4000000 in
theorem yQ (La Lb:Bool)(l1 l2:Addr)(xs ys:Array Value) :
    Meets (Builtin.«zip.__new__» ⟨[.type "zip",.ref l1,.ref l2],[]⟩) (fun _ R s=>Sq2 La s.heap l1 xs∧Sq2 Lb s.heap l2 ys∧R (.ok (.ret (.ref (zm4 La Lb s.heap l1 l2).objs.size))) { s with heap:=zm5 La Lb s.heap l1 l2 }) :=
  .of_wp fun prog w A R s h=>by
    obtain⟨hp,g,d,tk,os⟩:=s;obtain⟨u1,u2,h⟩:=h
    have hsub:=sub_zip
    cases La<;>cases Lb
    · have T1:Heap.IsTuple (Shared.heap ⟨hp,g,d,tk,os⟩) l1 xs:=u1
      have T2:Heap.IsTuple (Shared.heap ⟨hp.push { cls:=.type "tuple_iterator",data:=.fields #[.ref l1,.int 0 0] },g,d,tk,os⟩) l2 ys:=by
        obtain⟨o,ho,r⟩:=u2
        exact⟨o,Heap.get?_push_of_some _ ho,r⟩
      wp_walk using wpAny_pyIter_tuple T1,wpAny_pyIter_tuple T2
      exact⟨_,rfl,h⟩
    · have T1:Heap.IsTuple (Shared.heap ⟨hp,g,d,tk,os⟩) l1 xs:=u1
      have T2:Heap.IsList (Shared.heap ⟨hp.push { cls:=.type "tuple_iterator",data:=.fields #[.ref l1,.int 0 0] },g,d,tk,os⟩) l2 ys:=by
        obtain⟨o,ho,r⟩:=u2
        exact⟨o,Heap.get?_push_of_some _ ho,r⟩
      wp_walk using wpAny_pyIter_tuple T1,wpAny_pyIter_list T2
      exact⟨_,rfl,h⟩
    · have T1:Heap.IsList (Shared.heap ⟨hp,g,d,tk,os⟩) l1 xs:=u1
      have T2:Heap.IsTuple (Shared.heap ⟨hp.push { cls:=.type "list_iterator",data:=.fields #[.ref l1,.int 0 0] },g,d,tk,os⟩) l2 ys:=by
        obtain⟨o,ho,r⟩:=u2
        exact⟨o,Heap.get?_push_of_some _ ho,r⟩
      wp_walk using wpAny_pyIter_list T1,wpAny_pyIter_tuple T2
      exact⟨_,rfl,h⟩
    · have T1:Heap.IsList (Shared.heap ⟨hp,g,d,tk,os⟩) l1 xs:=u1
      have T2:Heap.IsList (Shared.heap ⟨hp.push { cls:=.type "list_iterator",data:=.fields #[.ref l1,.int 0 0] },g,d,tk,os⟩) l2 ys:=by
        obtain⟨o,ho,r⟩:=u2
        exact⟨o,Heap.get?_push_of_some _ ho,r⟩
      wp_walk using wpAny_pyIter_list T1,wpAny_pyIter_list T2
      exact⟨_,rfl,h⟩
section
variable {La Lb:Bool} {prog:Program} {w:World} {A:Around} {E:Value→Shared→Prop} {s:Shared}
theorem Cd {l1 l2:Addr}{xs ys:Array Value}{Q:Value→Shared→Prop}(u1:Sq2 La s.heap l1 xs)(u2:Sq2 Lb s.heap l2 ys)
    (q:∀ h',IsZip h' (s.heap.objs.size + 4) (s.heap.objs.size + 2) (s.heap.objs.size + 3) .none→IsPair h' (s.heap.objs.size + 2) (.ref s.heap.objs.size) (.ref (s.heap.objs.size + 1)) →
      IsPair h' (s.heap.objs.size + 3) .none .none→It2 La h' s.heap.objs.size l1 0→It2 Lb h' (s.heap.objs.size + 1) l2 0→h'.objs.size=s.heap.objs.size + 5 →
      (∀ c o,s.heap.get? c=some o→h'.get? c=some o)→Q (.ref (s.heap.objs.size + 4)) { s with heap:=h' }) :
    wpAny (model prog w) A (call (.type "zip") [.ref l1,.ref l2]) Q E s:=by
  refine callType_new F.called_zip (by decide) (F.typeCall_zip_2 _ _) (F.newCall_zip_2 _ _) (fun obj=>F.args_object_init_3 obj _ _) F.entry_zip_new (yQ La Lb l1 l2 xs ys) ⟨u1,u2,?_⟩
  have z1:(zm1 La s.heap l1).objs.size=s.heap.objs.size + 1:=Heap.size_push ..
  have z2:(zm2 La Lb s.heap l1 l2).objs.size=s.heap.objs.size + 2:=(Heap.size_push ..).trans (by rw [z1])
  have z3:(zm3 La Lb s.heap l1 l2).objs.size=s.heap.objs.size + 3:=(Heap.size_push ..).trans (by rw [z2])
  have z4:(zm4 La Lb s.heap l1 l2).objs.size=s.heap.objs.size + 4:=(Heap.size_push ..).trans (by rw [z3])
  have z5:(zm5 La Lb s.heap l1 l2).objs.size=s.heap.objs.size + 5:=(Heap.size_push ..).trans (by rw [z4])
  have p1:∀ {c o},(zm1 La s.heap l1).get? c=some o→(zm5 La Lb s.heap l1 l2).get? c=some o:=fun e=>Heap.get?_push_of_some _ (Heap.get?_push_of_some _ (Heap.get?_push_of_some _ (Heap.get?_push_of_some _ e)))
  have p2:∀ {c o},(zm2 La Lb s.heap l1 l2).get? c=some o→(zm5 La Lb s.heap l1 l2).get? c=some o:=fun e=>Heap.get?_push_of_some _ (Heap.get?_push_of_some _ (Heap.get?_push_of_some _ e))
  have p3:∀ {c o},(zm3 La Lb s.heap l1 l2).get? c=some o→(zm5 La Lb s.heap l1 l2).get? c=some o:=fun e=>Heap.get?_push_of_some _ (Heap.get?_push_of_some _ e)
  have g1:(zm5 La Lb s.heap l1 l2).get? s.heap.objs.size=some { cls:=.type (itN La),data:=.fields #[.ref l1,.int 0 0] }:=p1 (Heap.get?_push_size _ rfl)
  have g2:(zm5 La Lb s.heap l1 l2).get? (s.heap.objs.size + 1)=some { cls:=.type (itN Lb),data:=.fields #[.ref l2,.int 0 0] }:=by rw [← z1];exact p2 (Heap.get?_push_size _ rfl)
  have g3:(zm5 La Lb s.heap l1 l2).get? (s.heap.objs.size + 2)=some { cls:=.type "tuple",data:=.seq #[.ref s.heap.objs.size,.ref (s.heap.objs.size + 1)] }:=by rw [← z2,← z1];exact p3 (Heap.get?_push_size _ rfl)
  have g4:(zm5 La Lb s.heap l1 l2).get? (s.heap.objs.size + 3)=some { cls:=.type "tuple",data:=.seq #[.none,.none] }:=by rw [← z3];exact Heap.get?_push_of_some _ (Heap.get?_push_size _ rfl)
  have g5:(zm5 La Lb s.heap l1 l2).get? (s.heap.objs.size + 4)=some { cls:=.type "zip",data:=.fields #[.none,.bool false,.bool false,.ref (s.heap.objs.size + 2),.ref (s.heap.objs.size + 3)] }:=by rw [← z4,← z2,← z3];exact Heap.get?_push_size _ rfl
  show _∧_
  rw [z4]
  exact⟨⟨_,g5,rfl⟩,q _ g5 g3 g4 (It2.mk g1) (It2.mk g2) z5 fun c o e=>p1 (Heap.get?_push_of_some _ e)⟩
end
def Itm (La Lb:Bool) (K:PySem.W.Frag) (a b:Addr):It :=
  ⟨fun i H=>∃ xs ys x y,SqM La K H a xs∧SqM Lb K H b ys∧xs[i]? = some x∧ys[i]? = some y,fun i H x H'=>∃ q v u,x=.ref q∧H q=none∧H'=upd H q (.tup [v,u])∧(∀ xs,SqM La K H a xs→xs[i]? = some v) ∧ ∀ ys,SqM Lb K H b ys→ys[i]? = some u,fun i H=>∃ xs ys,SqM La K H a xs∧SqM Lb K H b ys∧min xs.length ys.length=i⟩
theorem Ce {La Lb:Bool}{P:Program}{w:World}{K:PySem.W.Frag}{elts:List Expr}{k:Nat}{pos:Pos}(z TI TO i1 i2 a b:Addr)(Z:ZipApart z TI TO i1 i2 a b) :
    wg P w K (.Tuple elts k pos) (Itm La Lb K a b) [z,TI,TO,i1,i2] z (fun i h=>IsZip h z TI TO .none∧IsPair h TI (.ref i1) (.ref i2)∧(∃ x y,IsPair h TO x y)∧It2 La h i1 a i∧It2 Lb h i2 b i) where
  mem:=by simp
  obj:=fun i h st c hc=>by
    obtain⟨gz,gI,⟨x,y,gO⟩,t1,t2⟩:=st
    have hc':c=z∨c=TI∨c=TO∨c=i1∨c=i2:=by simpa using hc
    rcases hc' with rfl|rfl|rfl|rfl|rfl
    · exact⟨_,gz,fun v e=>by
        have e':Data.fields _=Data.cell v:=e
        cases e'⟩
    · exact⟨_,gI,fun v e=>by
        have e':Data.seq _ _=Data.cell v:=e
        cases e'⟩
    · exact⟨_,gO,fun v e=>by
        have e':Data.seq _ _=Data.cell v:=e
        cases e'⟩
    · exact t1.obj
    · exact t2.obj
  keep:=fun i h h' st kk=>by
    obtain⟨gz,gI,⟨x,y,gO⟩,t1,t2⟩:=st
    exact⟨kk z (by simp) _ gz,kk TI (by simp) _ gI,⟨x,y,kk TO (by simp) _ gO⟩,t1.at (fun o e=>kk i1 (by simp) o e),t2.at (fun o e=>kk i2 (by simp) o e)⟩
  item:=by
    intro X hP hw hK hc i pins s σ H E I hf st hg
    subst hP hw hK
    obtain⟨gz,gI,⟨x0,y0,gO⟩,t1,t2⟩:=st
    obtain⟨xs,ys,x,y,hq1,hq2,hx,hy⟩:=hg
    obtain⟨is1,rv1,p1,hz1⟩:=lS I hq1
    obtain⟨is2,rv2,p2,hz2⟩:=lS I hq2
    obtain⟨u,hu,ru⟩:=rv1.get hx
    obtain⟨v,hv,rv⟩:=rv2.get hy
    have T1:Sq2 La s.heap a is1.toArray:=p1
    have T2:Sq2 Lb s.heap b is2.toArray:=p2
    have ld:=fun c (h:c∈[z,TI,TO,i1,i2])=>hf c h
    refine uc Z gz gI gO t1 t2 T1 T2 (by simpa using hu) (by simpa using hv) fun h' az aO a1 a2 aN asz kk=>⟨_,rfl,wpAny_letOwnedTupleGo_zip az fun h2 az2 b2 => ?_⟩
    have zl:z < s.heap.objs.size:=Heap.lt_size gz
    have Il:TI < s.heap.objs.size:=Heap.lt_size gI
    have Ol:TO < s.heap.objs.size:=Heap.lt_size gO
    have l1:i1 < s.heap.objs.size:=by obtain⟨_,e,_⟩:=t1.obj;exact Heap.lt_size e
    have l2:i2 < s.heap.objs.size:=by obtain⟨_,e,_⟩:=t2.obj;exact Heap.lt_size e
    have hN:H s.heap.objs.size=none:=I.hok.fresh (Nat.le_refl _)
    have keep:∀ c o,c∉[z,TO,i1,i2]→s.heap.get? c=some o→h2.get? c=some o:=fun c o hc e=>by
      have hc':c≠z∧c≠TO∧c≠i1∧c≠i2:=by simpa using hc
      exact (b2.2 c hc'.1).trans (kk c o hc'.1 hc'.2.1 hc'.2.2.1 hc'.2.2.2 e)
    have nw:IsPair h2 s.heap.objs.size u v:=(b2.2 _ (Nat.ne_of_gt zl)).trans aN
    have sub:∀ c∈[z,TO,i1,i2],c∈[z,TI,TO,i1,i2]:=fun c hc=>by simp at hc ⊢;rcases hc with e|e|e|e<;>simp [e]
    have hTI2:IsPair h2 TI (.ref i1) (.ref i2):=keep TI _ (by simp;exact⟨Z.TIz,Z.TITO,Z.TIi1,Z.TIi2⟩) gI
    refine⟨.ref s.heap.objs.size,upd H s.heap.objs.size (.tup [x,y]),?_,rfl,⟨_,x,y,rfl,hN,rfl,fun zs hzs=>by rw [Be I hzs hq1];exact hx,fun zs hzs=>by rw [Be I hzs hq2];exact hy⟩,
      ⟨az2,hTI2,⟨_,_,(b2.2 _ Z.TOz).trans aO⟩,(a1.at fun o e=>(b2.2 _ Z.i1z).trans e),(a2.at fun o e=>(b2.2 _ Z.i2z).trans e)⟩,fun c hc => ?_⟩
    · suffices I2:L2.Inv X pins σ (upd H s.heap.objs.size (.tup [x,y])) { s with heap:=h2,gens:=s.gens,drawn:=s.drawn,toks:=s.toks } from I2
      have nch:∀ c u',H c=some u'→c∉[z,TO,i1,i2]:=fun c u' e q=>by rw [(hf c (sub c q)).1] at e;cases e
      refine I.step (g':=s.gens) (d':=s.drawn) (t':=s.toks) (ch:=[z,TO,i1,i2]) (fun c hc => ?_) (fun c o _ _ hc q _=>keep c o hc q) (fun c o _ _ hc q _=>⟨o.slots,keep c o hc q⟩) (fun c o _ q n => ?_) (fun c o hc q=>⟨o,keep c o hc q⟩)
        (fun c zs q => ?_) (fun c o u' q => ?_) (fun c ps q=>⟨#[],?_⟩) (fun m hm => ?_) (fun c u' q => ?_) I.bare
      · have:=hf c (sub c hc)
        exact⟨this.2.2.2.1,this.2.1,this.2.2.2.2.1,this.2.2.2.2.2⟩
      · rw [aB (Nat.ne_of_lt (Heap.lt_size q))];exact n
      · rw [aB (aC q hN)];exact q
      · rw [aB (aC q hN)];exact q
      · rw [aB (aC q hN),q];simp
      · obtain⟨o,es,ep,ho,r⟩:=hm
        exact⟨o,es,ep,keep _ o (fun q=>(hf _ (sub _ q)).2.1 rfl) ho,r⟩
      · by_cases hb:c=s.heap.objs.size
        · subst hb
          rw [bi] at q
          cases q
          exact⟨by show 2≤sizeLine;rw [sizeLine_eq];decide,[u,v],.cons ru (.cons rv .nil),⟨_,nw,rfl,_,rfl⟩,_,nw,rfl⟩
        · rw [aB hb] at q
          refine (I.hok c u' q).stay (fun d v' hd' e => ?_) (fun d e=>by rw [aB (aC e hN)];exact e) fun d zs e=>by rw [aB (aC e hN)];exact e
          rcases hd' with e'|e'
          · subst e';exact keep d v' (nch d _ q) e
          · exact keep d v' (nch d _ e') e
    · have hc':c=z∨c=TI∨c=TO∨c=i1∨c=i2:=by simpa using hc
      have:c≠s.heap.objs.size:=by rcases hc' with e|e|e|e|e<;>rw [e]<;>exact Nat.ne_of_lt (by assumption)
      rw [aB this]
      exact (hf c hc).1
  done:=by
    intro X hP hw hK hc i pins s σ H E I hf st hg
    subst hP hw hK
    obtain⟨gz,gI,⟨x0,y0,gO⟩,t1,t2⟩:=st
    obtain⟨xs,ys,hq1,hq2,hi⟩:=hg
    obtain⟨is1,rv1,p1,hz1⟩:=lS I hq1
    obtain⟨is2,rv2,p2,hz2⟩:=lS I hq2
    have T1:Sq2 La s.heap a is1.toArray:=p1
    have T2:Sq2 Lb s.heap b is2.toArray:=p2
    have e1:=rv1.length
    have e2:=rv2.length
    have nd:is1.toArray[i]? = none∨is2.toArray[i]? = none:=by
      rcases Nat.le_total xs.length ys.length with h|h
      · exact .inl (Array.getElem?_eq_none (by simp;omega))
      · exact .inr (Array.getElem?_eq_none (by simp;omega))
    have sub:∀ c∈[z,TO,i1,i2],c∈[z,TI,TO,i1,i2]:=fun c hc=>by simp at hc ⊢;rcases hc with e|e|e|e<;>simp [e]
    refine wI (I.ok.hd hc) Z gz gI gO t1 t2 T1 T2 nd fun h' kk=>⟨rfl,Gy (t':=s.toks) (ch:=[z,TO,i1,i2]) I (fun c o hc e => ?_) fun c hc=>hf c (sub c hc)⟩
    have hc':c≠z∧c≠TO∧c≠i1∧c≠i2:=by simpa using hc
    exact kk c o hc'.1 hc'.2.1 hc'.2.2.1 hc'.2.2.2 e
  self:=fun _ _ _ _ _ st h=>wpAny_pyIter_zip st.1 h
section
variable {X:Cx} {pos p tp:Pos} {elts:List Expr} {tk:Nat}
def iZm (K:PySem.W.Frag) (ta:TA):TI:=fun σ H R=>ta σ H fun vs H1=>∃ La Lb a b xs ys,vs=[.ref a,.ref b]∧SqM La K H1 a xs∧SqM Lb K H1 b ys∧(xs.length≤sizeLine→ys.length≤sizeLine→R (Itm La Lb K a b) H1)
theorem GB {a b:Expr} {ta:TA} (hg:Gl X "zip") (hm:X.mg "zip" = none) (ha:PA X [a,b] ta) (hs:starEach [a,b] X.env=[(false,eval a X.env),(false,eval b X.env)]:=by rfl) (hs2:starEach [b] X.env=[(false,eval b X.env)]:=by rfl):PI X (.Tuple elts tk tp) (.Call (.Name "zip" p) [a,b] [] pos) (iZm X.K ta):=by
  intro pins s σ H R I h
  refine Call_ (ke I hg hm PyProof.Rows.boot_zip (PyProof.Rows.callWith_type1 (thn (ha pos pins s σ H _ I h) fun us s1 ⟨vs,H1,I1,r1,q1⟩ => ?_) (by rw [hs,hs2]) (by rw [hs2];rfl)))
  obtain⟨La,Lb,a1,b1,xs,ys,e,hq1,hq2,q⟩:=q1
  subst e
  cases r1 with
  | cons r rr =>
    cases rr with
    | cons r' rr =>
      cases rr
      cases r
      cases r'
      obtain⟨is1,rv1,p1,hz1⟩:=lS I1 hq1
      obtain⟨is2,rv2,p2,hz2⟩:=lS I1 hq2
      have T1:Sq2 La s1.heap a1 is1.toArray:=p1
      have T2:Sq2 Lb s1.heap b1 is2.toArray:=p2
      have la:a1 < s1.heap.objs.size:=T1.lt
      have lb:b1 < s1.heap.objs.size:=T2.lt
      refine Cd T1 T2 fun h' gz gI gO t1 t2 hsz hk => ?_
      refine wpAny_pyIter_zip (s:={ s1 with heap:=h' }) gz ?_
      have I2:Inv X pins σ H1 { s1 with heap:=h' }:=I1.kept (t':=s1.toks) hk
      have Z:ZipApart (s1.heap.objs.size + 4) (s1.heap.objs.size + 2) (s1.heap.objs.size + 3) s1.heap.objs.size (s1.heap.objs.size + 1) a1 b1:=by
        constructor<;>simp only [Addr] at *<;>omega
      refine⟨s1.heap.objs.size + 4,[s1.heap.objs.size + 4,s1.heap.objs.size + 2,s1.heap.objs.size + 3,s1.heap.objs.size,s1.heap.objs.size + 1],_,_,H1,rfl,I2,Ce _ _ _ _ _ a1 b1 Z,⟨gz,gI,⟨_,_,gO⟩,t1,t2⟩,fun c hc => ?_,q hz1 hz2⟩
      have hc':s1.heap.objs.size≤c:=by
        have:c=s1.heap.objs.size + 4∨c=s1.heap.objs.size + 2∨c=s1.heap.objs.size + 3∨c=s1.heap.objs.size∨c=s1.heap.objs.size + 1:=by simpa using hc
        rcases this with e|e|e|e|e<;>rw [e]<;>first|exact Nat.le_add_right _ _|exact Nat.le_refl _
      exact I1.fpOk hc' (I1.hok.fresh hc')
theorem Cf {La Lb:Bool}{K:PySem.W.Frag}{ρ:List Addr}{H:Hp}{q q':Addr}{l l':List D}{g g':Option Nat}(w1:∀ ρ' H' hd',Ext ρ H ρ' H'→RH K ρ' H' hd'→dl g l hd' → ∃ vs,SqM La K H' q vs∧RDs K ρ' H' l vs)(w2:∀ ρ' H' hd',Ext ρ H ρ' H'→RH K ρ' H' hd'→dl g' l' hd' → ∃ vs,SqM Lb K H' q' vs∧RDs K ρ' H' l' vs)(hz:l.length≤sizeLine) :
    oQ K ρ H (Itm La Lb K q q') ((l.zip l').map fun p=>.tup [p.1,p.2]) (fun h=>dl g l h∧dl g' l' h) where
  go:=fun ρ' H' hd' i d ex rh hh hi=>by
    obtain⟨hil,hi2⟩:=List.getElem?_eq_some_iff.mp hi
    have hl:i < l.length:=by simp at hil;omega
    have hl':i < l'.length:=by simp at hil;omega
    have hd:d=.tup [l[i],l'[i]]:=by rw [← hi2];simp
    subst hd
    obtain⟨vs,sq,rv⟩:=w1 ρ' H' hd' ex rh hh.1
    obtain⟨vs',sq',rv'⟩:=w2 ρ' H' hd' ex rh hh.2
    obtain⟨v,hv,rd⟩:=rv.get (i:=i) (d:=l[i]) (by simp [hl])
    obtain⟨v',hv',rd'⟩:=rv'.get (i:=i) (d:=l'[i]) (by simp [hl'])
    refine⟨⟨vs,vs',v,v',sq,sq',hv,hv'⟩,fun x H2 y => ?_⟩
    obtain⟨q2,v2,v3,rfl,hn,rfl,y,y'⟩:=y
    have e1:=y vs sq
    have e2:=y' vs' sq'
    rw [hv] at e1
    rw [hv'] at e2
    cases e1
    cases e2
    have sm:=cm (o:=HO.tup [v,v']) hn
    refine⟨sm,?_⟩
    simp only [RD]
    exact⟨q2,_,rfl,bi,RDs.cons (rd.mono (Kp.same sm)) (RDs.cons (rd'.mono (Kp.same sm)) RDs.nil)⟩
  stop:=fun ρ' H' hd' ex rh hh=>by
    obtain⟨vs,sq,rv⟩:=w1 ρ' H' hd' ex rh hh.1
    obtain⟨vs',sq',rv'⟩:=w2 ρ' H' hd' ex rh hh.2
    exact⟨vs,vs',sq,sq',by rw [← rv.length,← rv'.length];simp⟩
  sz:=by simp;omega
theorem wJ {K:PySem.W.Frag}{ρ:List Addr}{H:Hp}{hd:Hd}{d:D}{v:V}{l:List D}{g:Option Nat}(r:RH K ρ H hd)(rd:RD K ρ H d v)(e:oZ hd d=some (l,g)) :
    ∃ (L:Bool) (q:Addr),v=.ref q∧(∃ vs,SqM L K H q vs∧RDs K ρ H l vs) ∧ ∀ ρ' H' hd',Ext ρ H ρ' H'→RH K ρ' H' hd'→dl g l hd' → ∃ vs,SqM L K H' q vs∧RDs K ρ' H' l vs:=by
  cases d<;>simp only [oZ] at e<;>try (cases e;done)
  · cases e
    simp only [RD] at rd
    obtain⟨q,vs,rfl,hq,rvs⟩:=rd
    exact⟨false,q,rfl,⟨vs,SqT.of hq,rvs⟩,fun ρ' H' hd' ex rh _=>⟨vs,SqT.of ((r.kp ex).tup q vs hq),rvs.mono (r.kp ex)⟩⟩
  · rename_i n
    cases c:hd[n]? with
    | none=>rw [c] at e;cases e
    | some cell =>
      rw [c] at e
      cases cell with
      | dct _=>cases e
      | lst l0 =>
        cases e
        simp only [RD] at rd
        obtain⟨q,hq,rfl⟩:=rd
        obtain⟨vs,hv,rvs⟩:=r.cel n _ q c hq
        refine⟨true,q,rfl,⟨vs,SqL.of hv,rvs⟩,fun ρ' H' hd' ex rh hh => ?_⟩
        obtain⟨vs',hv',rvs'⟩:=rh.cel n _ q hh (ex.get hq)
        exact⟨vs',SqL.of hv',rvs'⟩
def Eg (K:PySem.W.Frag) (ρ:List Addr) (H:Hp) (σd:Sd) (σ:St) (f g:EF) (hd:Hd) (R:It→Hp→Prop):Prop:=match f σd hd with
  | .ok x h1=>match g σd h1 with
    | .ok y h2=>match oZ h2 x,oZ h2 y with
      | some (l,o),some (k,o')=>∀ J H' ρ',Ext ρ H ρ' H'→RS K ρ' H' σd h2 σ → oQ K ρ' H' J ((l.zip k).map fun p=>.tup [p.1,p.2]) (fun h=>dl o l h∧dl o' k h)→R J H'
      | _,_=>False
    | _=>False
  | _=>False
def Kt (K:PySem.W.Frag) (f g:EF):TI:=fun σ H R=>∃ ρ σd hd,RS K ρ H σd hd σ ∧ Eg K ρ H σd σ f g hd R
def MIZ (X:Cx) (tg e:Expr) (f g:EF):Prop:=PI X tg e (Kt X.K f g)
theorem GC {a b:Expr} {f g:EF} (hg:Gl X "zip") (hm:X.mg "zip" = none) (ha:ME X a f) (hb:ME X b g) (hs:starEach [a,b] X.env=[(false,eval a X.env),(false,eval b X.env)]:=by rfl) (hs2:starEach [b] X.env=[(false,eval b X.env)]:=by rfl):MIZ X (.Tuple elts tk tp) (.Call (.Name "zip" p) [a,b] [] pos) f g:=by
  refine PI.imp (GB hg hm (bX ha (bX hb df hs2) (by rw [hs,hs2])) hs hs2) fun σ H R ⟨ρ,σd,hd,rs,pp⟩=>⟨ρ,σd,hd,rs,?_⟩
  unfold Eg at pp
  cases e:f σd hd with
  | exc x h1=>rw [e] at pp;exact pp
  | bad=>rw [e] at pp;exact pp
  | ok d hd1 =>
    rw [e] at pp
    simp only at pp
    intro v H1 ρ1 ex1 rs1 rv
    refine⟨ρ1,σd,hd1,rs1,?_⟩
    cases e2:g σd hd1 with
    | exc x h1=>rw [e2] at pp;exact pp
    | bad=>rw [e2] at pp;exact pp
    | ok d2 hd2 =>
      rw [e2] at pp
      simp only at pp
      intro v2 H2 ρ2 ex2 rs2 rv2
      have rv:=RD.mono (rs1.hp.kp ex2) rv
      cases c1:oZ hd2 d with
      | none=>rw [c1] at pp;exact pp.elim
      | some p1 =>
        obtain⟨l,o⟩:=p1
        cases c2:oZ hd2 d2 with
        | none=>rw [c1,c2] at pp;exact pp.elim
        | some p2 =>
          obtain⟨k,o'⟩:=p2
          rw [c1,c2] at pp
          simp only at pp
          obtain⟨La,q,rfl,⟨vs,sq,rvs⟩,w1⟩:=wJ rs2.hp rv c1
          obtain⟨Lb,q',rfl,⟨vs',sq',rvs'⟩,w2⟩:=wJ rs2.hp rv2 c2
          exact⟨La,Lb,q,q',vs,vs',rfl,sq,sq',fun hz hz'=>pp _ H2 ρ2 (ex1.trans ex2) rs2 (Cf w1 w2 (by rw [rvs.length];exact hz))⟩
end
section
variable {X:Cx} {pos:Pos} {tg:Expr}
theorem GD {iter:Expr}{body:List Stmt}{f f2:EF}{g:GF}{b:SF}(hp:PassesOwn (model X.prog X.w) X.A X.env X.xe)(hc:X.calm=true)(hi:MIZ X tg iter f f2)(hg:MG X tg g)(hb:MSs X body b)
    (hs:∀ x,foldedSetIterable iter X.env x=pure x:=by intro _;rfl):MS X (.For tg iter body [] pos) (wH f f2 g b):=by
  refine PS.imp (Dy hp hc hi hg hb hs) fun En σ H ⟨ρ,σd,hd,rs,p⟩=>⟨ρ,σd,hd,rs,?_⟩
  unfold wH at p
  unfold Eg
  cases e:f σd hd with
  | exc x h'=>rw [e] at p;exact p
  | bad=>rw [e] at p;exact p
  | ok d hd0 =>
    rw [e] at p
    simp only at p ⊢
    cases e2:f2 σd hd0 with
    | exc x h'=>rw [e2] at p;exact p
    | bad=>rw [e2] at p;exact p
    | ok d2 hd1 =>
      rw [e2] at p
      simp only at p ⊢
      cases c1:oZ hd1 d with
      | none=>rw [c1] at p;exact p.elim
      | some p1 =>
        obtain⟨l0,o⟩:=p1
        cases c2:oZ hd1 d2 with
        | none=>rw [c1,c2] at p;exact p.elim
        | some p2 =>
          obtain⟨k0,o'⟩:=p2
          rw [c1,c2] at p
          simp only at p ⊢
          intro J H1 ρ1 ex1 rs1 wk
          generalize hG:(fun h:Hd=>dl o l0 h∧dl o' k0 h)=G at p wk
          generalize ((l0.zip k0).map fun p=>D.tup [p.1,p.2])=l at p wk
          refine⟨fun i m σ' H'=>∃ ρ' σd' hd',Ext ρ1 H1 ρ' H'∧RS X.K ρ' H' σd' hd' σ'∧i≤l.length∧m=l.length - i∧bZ X.K ρ' H' (lQ G g b (l.drop i) σd' hd') En,
            ⟨l.length,ρ1,σd,hd1,Ext.refl,rs1,Nat.zero_le _,by simp,by simpa using bZ.ext ex1 p⟩,?_⟩
          rintro i m σ' H' ⟨ρ',σd',hd',ex,rs',hil,rfl,pp⟩
          by_cases hlt:i < l.length
          · have hdi:l[i]? = some l[i]:=by simp [hlt]
            rw [List.drop_eq_getElem_cons hlt] at pp
            unfold lQ at pp
            by_cases hh:G hd'
            · rw [if_pos hh] at pp
              obtain⟨go,yl⟩:=wk.go ρ' H' hd' i _ ex rs'.hp hh hdi
              refine .inr ⟨go,fun σ2 H2=>∃ ρ2 σd2 hd2,Ext ρ1 H1 ρ2 H2∧RS X.K ρ2 H2 σd2 hd2 σ2∧bZ X.K ρ2 H2 (lQ G g b (l.drop (i + 1)) σd2 hd2) En,
                fun σ2 H2 ⟨ρ2,σd2,hd2,a1,a2,a3⟩=>⟨l.length - (i + 1),by omega,ρ2,σd2,hd2,a1,a2,hlt,rfl,a3⟩,fun x H2 y => ?_⟩
              obtain⟨sm,rx⟩:=yl x H2 y
              cases c:g l[i] σd' with
              | none=>rw [c] at pp;exact pp.elim
              | some σd2 =>
                rw [c] at pp
                simp only at pp
                refine⟨ρ',σd',hd',l[i],σd2,rs'.same sm,rx,c,fun σ2 rs2=>⟨ρ',σd2,hd',rs2,?_⟩⟩
                have e12:Ext ρ' H' ρ' H2:=Ext.same sm
                cases c2:b σd2 hd' with
                | nx σ3 h3=>rw [c2] at pp;exact fun σ4 H4 ρ4 ex4 rs4=>⟨ρ4,σ3,h3,ex.trans (e12.trans ex4),rs4,bZ.ext (e12.trans ex4) pp⟩
                | ct σ3 h3=>rw [c2] at pp;exact fun σ4 H4 ρ4 ex4 rs4=>⟨ρ4,σ3,h3,ex.trans (e12.trans ex4),rs4,bZ.ext (e12.trans ex4) pp⟩
                | bk σ3 h3=>rw [c2] at pp;exact fun σ4 H4 ρ4 ex4 rs4=>pp σ4 H4 ρ4 (e12.trans ex4) rs4
                | rt d h3=>rw [c2] at pp;exact fun v H4 ρ4 ex4 rs4 rv=>pp v H4 ρ4 (e12.trans ex4) rs4 rv
                | exc x σ3 h3=>rw [c2] at pp;exact pp
                | bad=>rw [c2] at pp;exact pp
            · rw [if_neg hh] at pp;exact pp.elim
          · have e0:i=l.length:=by omega
            subst e0
            rw [List.drop_length] at pp
            unfold lQ at pp
            by_cases hh:G hd'
            · rw [if_pos hh] at pp
              exact .inl ⟨wk.stop ρ' H' hd' ex rs'.hp hh,pp σ' H' ρ' Ext.refl rs'⟩
            · rw [if_neg hh] at pp;exact pp.elim
end
end Fm
set_option Elab.async false
set_option linter.all false
set_option maxRecDepth 100000
namespace Fm
open PySem
abbrev qB (xs:Array Nat):Prop:=xs.toList.Pairwise (· < ·)
theorem qB.lt {xs:Array Nat}(r:qB xs){i j:Nat}(hj:j < xs.size)(h:i < j):xs[i]'(by omega) < xs[j]:=by
  have:=List.pairwise_iff_getElem.mp r i j (by simpa using Nat.lt_trans h hj) (by simpa using hj) h
  simpa using this
theorem o4 {xs:Array Nat}{j:Nat}(r:qB xs):∀ (jS lo hi:Nat),lo≤hi→hi≤xs.size→hi - lo≤jS→(∀ i (q:i < xs.size),i < lo→xs[i] < j)→(∀ i (q:i < xs.size),hi≤i→j≤xs[i]) →
    SetTable.below.go xs j jS lo hi≤xs.size∧(∀ i (q:i < xs.size),i < SetTable.below.go xs j jS lo hi→xs[i] < j)∧(∀ i (q:i < xs.size),SetTable.below.go xs j jS lo hi≤i→j≤xs[i])
  | 0,lo,hi,h1,h2,h3,h4,h5=>by
    have:lo=hi:=by omega
    subst this
    exact⟨h2,h4,h5⟩
  | jS + 1,lo,hi,h1,h2,h3,h4,h5=>by
    unfold SetTable.below.go
    by_cases c:lo < hi
    · rw [if_pos c]
      have hm:(lo + hi) / 2 < xs.size:=by omega
      have e:xs.getD ((lo + hi) / 2) j=xs[(lo + hi) / 2]:=by simp [Array.getD,hm]
      simp only [e]
      by_cases c2:xs[(lo + hi) / 2] < j
      · rw [if_pos c2]
        refine o4 r jS _ _ (by omega) h2 (by omega) (fun i q l => ?_) h5
        by_cases e2:i=(lo + hi) / 2
        · subst e2;exact c2
        · exact Nat.lt_trans (r.lt hm (by omega)) c2
      · rw [if_neg c2]
        refine o4 r jS _ _ (by omega) (by omega) (by omega) h4 fun i q l => ?_
        by_cases e2:i=(lo + hi) / 2
        · subst e2;omega
        · have:=r.lt q (i:=(lo + hi) / 2) (by omega)
          omega
    · rw [if_neg c]
      have:lo=hi:=by omega
      subst this
      exact⟨h2,h4,h5⟩
theorem o5 {xs:Array Nat}{j:Nat}(r:qB xs):SetTable.below xs j≤xs.size∧(∀ i (q:i < xs.size),i < SetTable.below xs j→xs[i] < j)∧(∀ i (q:i < xs.size),SetTable.below xs j≤i→j≤xs[i]) :=
  o4 r _ _ _ (Nat.zero_le _) (Nat.le_refl _) (by omega) (fun i q l=>absurd l (Nat.not_lt_zero _)) fun i q l=>absurd q (Nat.not_lt.mpr l)
theorem o6 {xs:Array Nat}(r:qB xs){k:Nat}(hk:k < xs.size):SetTable.below xs (xs[k] + 1)=k + 1:=by
  obtain⟨a,b,c⟩:=o5 (j:=xs[k] + 1) r
  rcases Nat.lt_trichotomy (SetTable.below xs (xs[k] + 1)) (k + 1) with h|h|h
  · have:=c k hk (by omega);omega
  · exact h
  · have h1:k + 1 < xs.size:=by omega
    have:=b (k + 1) h1 h
    have:=r.lt h1 (Nat.lt_succ_self k)
    omega
theorem o7 {xs:Array Nat}(r:qB xs):SetTable.below xs 0=0:=by
  obtain⟨a,b,c⟩:=o5 (j:=0) r
  by_cases h:SetTable.below xs 0=0
  · exact h
  · exact absurd (b 0 (by omega) (by omega)) (by omega)
theorem wK {xs:Array Nat}{j:Nat}(r:qB xs)(n:xs[SetTable.below xs j]? ≠some j):qB (SetTable.insertAt xs (SetTable.below xs j) j):=by
  obtain⟨a,b,c⟩:=o5 (j:=j) r
  generalize SetTable.below xs j=p at a b c n
  show List.Pairwise _ _
  rw [SetTable.toList_insertAt]
  have r0:(xs.toList.take p++xs.toList.drop p).Pairwise (· < ·):=by rw [List.take_append_drop];exact r
  rw [List.pairwise_append] at r0 ⊢
  have lo:∀ x∈xs.toList.take p,x < j:=fun x hx=>by
    obtain⟨i,hi,e⟩:=List.mem_take_iff_getElem.mp hx
    have q:i < xs.size:=by simp at hi;omega
    have:=b i q (by omega)
    simpa [← e] using this
  have up:∀ x∈xs.toList.drop p,j < x:=fun x hx=>by
    obtain⟨i,hi,e⟩:=List.mem_drop_iff_getElem.mp hx
    have q:i + p < xs.size:=by simp at hi;omega
    have h1:=c (i + p) q (by omega)
    have e1:x=xs[i + p]:=by rw [← e];simp;congr 1;omega
    rcases Nat.lt_or_ge j x with h|h
    · exact h
    · exfalso
      have h2:x=j:=by omega
      by_cases i0:i=0
      · subst i0
        apply n
        have q':p < xs.size:=by omega
        rw [Array.getElem?_eq_getElem q',← h2,e1]
        congr 1;congr 1;omega
      · have q':p < xs.size:=by omega
        have h3:=r.lt q (i:=p) (by omega)
        have h4:=c p q' (Nat.le_refl _)
        omega
  exact⟨r0.1,List.pairwise_cons.mpr ⟨up,r0.2.1⟩,fun x hx y hy=>by
    rcases List.mem_cons.mp hy with rfl|hy
    · exact lo x hx
    · exact Nat.lt_trans (lo x hx) (up y hy)⟩
theorem yR (n:Nat):qB (Array.range n):=by
  show List.Pairwise _ _
  rw [Array.toList_range]
  exact List.pairwise_lt_range
structure GT (led:Bool) (t:SetTable):Prop where
  up:qB t.place
  no:t.dummies = #[]
  le:t.led=led
theorem GT.fresh (led:Bool):GT led (.fresh 0 0 led):=⟨List.Pairwise.nil,rfl,rfl⟩
theorem GT.standIn {led:Bool}{t:SetTable}(g:GT led t)(n:Nat):GT led (t.standIn n):=⟨yR n,rfl,g.le⟩
theorem Eh (j:Nat):SetTable.has #[] j=false:=rfl
theorem Cg {t:SetTable}{j:Nat}(h:t.slot j=.empty):t.place[SetTable.below t.place j]? ≠some j:=fun e=>by
  unfold SetTable.slot at h
  simp [e] at h
theorem ud {t:SetTable}{j:Nat}(n:t.dummies = #[]):t.slot j ≠ .dummy:=fun e=>by
  unfold SetTable.slot at e
  rw [n] at e
  simp only [Eh] at e
  split at e<;>simp at e
theorem qC (t:SetTable)(p:SetTable.Probe):(t.advance p).dummy=p.dummy:=by
  unfold SetTable.advance
  split<;>rfl
theorem o8 {t:SetTable}(n:t.dummies = #[])(f:Nat→Int)(h:Int):∀ (jS:Nat) (p:SetTable.Probe) {j:Nat} {d:Option Nat},p.dummy=none→SetTable.probe.go t f h jS p=some (.empty j d)→d=none∧t.slot j=.empty
  | 0,_,_,_,_,e=>by cases e
  | jS + 1,p,j,d,pd,e=>by
    unfold SetTable.probe.go at e
    cases c:t.slot p.j with
    | empty =>
      rw [c] at e
      simp only [Option.some.injEq,SetTable.Met.empty.injEq] at e
      obtain⟨rfl,rfl⟩:=e
      exact⟨pd,c⟩
    | dummy=>exact absurd c (ud n)
    | live i =>
      rw [c] at e
      simp only at e
      split at e
      · simp at e
      · exact o8 n f h jS _ (by rw [qC];exact pd) e
theorem GE {t:SetTable}(n:t.dummies = #[]){h:Int}{j:Nat}{b:Bool}(e:t.freeSlot h=some (j,b)):t.slot j=.empty:=by
  unfold SetTable.freeSlot at e
  split at e
  · rename_i j' d q
    obtain⟨rfl,s⟩:=o8 n _ h _ _ rfl q
    cases e
    exact s
  · cases e
theorem GT.layNew {led:Bool}{t:SetTable}(g:GT led t)(es:Array (Int × Value))(h:Int)(x:Value):GT led (layNew t es h x).2.1:=by
  unfold PySem.layNew
  split
  · rename_i slot wd e
    have f:=GE g.no e
    have g1:GT led (t.put slot).1:=⟨wK g.up (Cg f),by
      show (if SetTable.has t.dummies slot then _ else t.dummies) = #[]
      rw [g.no,Eh];rfl,g.le⟩
    show GT led (SetTable.orStandIn _ _)
    unfold SetTable.orStandIn
    split
    · exact g1
    · exact g1.standIn _
  · exact g.standIn _
theorem GT.relayAll {led:Bool}{t:SetTable}(g:GT led t)(es:Array (Int × Value))(n:Nat):GT led (relayAll t es n).2.1:=by
  unfold PySem.relayAll
  split
  · rename_i t' order e
    dsimp only
    split
    · unfold SetTable.relaid SetTable.laid at e
      cases c:SetTable.layClean (SetTable.sizeAbove n - 1) (es.map (·.1)) with
      | none=>rw [c] at e;cases e
      | some owner =>
        rw [c] at e
        cases e
        refine⟨?_,rfl,g.le⟩
        show List.Pairwise _ _
        simp only [List.map_filterMap]
        rw [List.pairwise_filterMap]
        refine List.Pairwise.imp ?_ List.pairwise_lt_range
        intro a b hab x hx y hy
        have ex:x=a:=by
          cases q:owner.getD a none with
          | none=>rw [q] at hx;cases hx
          | some k=>rw [q] at hx;cases hx;rfl
        have ey:y=b:=by
          cases q:owner.getD b none with
          | none=>rw [q] at hy;cases hy
          | some k=>rw [q] at hy;cases hy;rfl
        subst ex;subst ey;exact hab
    · exact g.standIn _
  · exact g.standIn _
end Fm
set_option Elab.async false
set_option linter.all false
set_option maxRecDepth 100000
namespace Fm
open PySem PySem.Spec
def jW:Int × Value→Int
  | (_,.int n _)=>n
  | _=>0
section
variable (prog:Program) (w:World)
structure ue (led:Bool) (es:Array (Int × Value)) (t:SetTable) (ns:List Int):Prop where
  el:ElemsOf (intKind prog w) es.toList
  ks:(es.toList.map jW).Perm ns
  fit:t.fits es.size=true
  gt:GT led t
def cR (led:Bool) (a:Addr) (ns:List Int) (h:Heap):Prop :=
  ∃ es ep t,h.get? a=some { cls:=.type "set",dict:=none,data:=.set es ep t } ∧ ue prog w led es t ns
end
section
variable {prog:Program} {w:World} {A:Around} {E:Value→Shared→Prop} {s:Shared} {led:Bool} {es:Array (Int × Value)} {t:SetTable} {ns:List Int} {a:Addr}
theorem ue.len (g:ue prog w led es t ns):es.size=ns.length:=by
  have:=g.ks.length_eq
  simpa using this
theorem uf {e:Int × Value}{k:Int}(h:(intKind prog w).is k e.2=true):jW e=k:=by
  obtain⟨x,y⟩:=e
  obtain⟨t,e⟩:=Value.isInt_shape (show Value.isInt k y=true from h)
  subst e
  rfl
theorem ue.mem (g:ue prog w led es t ns)(k:Int):k∈ns ↔ ∃ e∈es.toList,(intKind prog w).is k e.2=true:=by
  rw [← g.ks.mem_iff,List.mem_map]
  constructor
  · rintro⟨e,he,rfl⟩
    obtain⟨⟨k',h1,_⟩,_⟩:=g.el e he
    exact⟨e,he,by rw [uf h1];exact h1⟩
  · rintro⟨e,he,q⟩
    exact⟨e,he,uf q⟩
theorem cR.put {h:Heap} {o:Obj} {es':Array (Int × Value)} {ep:Nat} {t':SetTable} (ho:h.get? a=some { cls:=.type "set",dict:=none,data:=.set es ep t }) :
    (h.update a (Obj.putSet es' t')).get? a=some { cls:=.type "set",dict:=none,data:=.set es' (ep + 1) t' }:=by
  have:=Heap.get?_update_self (Obj.putSet es' t') ho rfl
  exact this
theorem Bf {g:Bool→Sem Unit}(hg:∀ (b:Bool) (s₁ : Shared) (Q':Unit→Shared→Prop),Q' () s₁ → wpAny (model prog w) A (g b) Q' E s₁){ep:Nat}{es1:Array (Int × Value)}{t1:SetTable}
    (ho:s.heap.get? a=some { cls:=.type "set",dict:=none,data:=.set es ep t }) (G:ue prog w led es1 t1 ns) (hb:ns.length < scanBound) {wd:Bool} {R:Option Bool→Shared→Prop}
    (h:∀ h',Heap.SameBut a s.heap h'→cR prog w led a ns h'→R (some true) { s with heap:=h' }) :
    wpAny (model prog w) A (storeSet a es1 t1 >>= fun _=>if (!wd && t1.tooFull)=true then g (relayAll t1 es1 (SetTable.grown es1.size)).2.2 >>= fun _=>storeSet a (relayAll t1 es1 (SetTable.grown es1.size)).1 (relayAll t1 es1 (SetTable.grown es1.size)).2.1 >>= fun _=>pure (some true) else pure (some true)) R E s:=by
  have z1:es1.size < scanBound:=by rw [G.len];exact hb
  refine wpAny_bind (wpAny_storeSet_of ho rfl ?_ (fits_of_scanBound z1))
  have o1:=cR.put (o:=default) (es':=es1) (t':=t1) ho
  have sb:=Heap.SameBut.update s.heap a (Obj.putSet es1 t1)
  split
  · have pp:=relayAll_perm t1 es1 (SetTable.grown es1.size)
    have ff:=relayAll_fits t1 es1 (SetTable.grown es1.size)
    have gg:=G.gt.relayAll es1 (SetTable.grown es1.size)
    generalize relayAll t1 es1 (SetTable.grown es1.size)=L at pp ff gg
    obtain⟨es2,t2,gv⟩:=L
    dsimp only at pp ff gg ⊢
    have G2:ue prog w led es2 t2 ns:=⟨G.el.perm pp,(pp.map jW).trans G.ks,ff,gg⟩
    refine wpAny_bind (hg _ _ _ ?_)
    refine wpAny_bind (wpAny_storeSet_of o1 rfl ?_ (fits_of_scanBound (by rw [G2.len];exact hb)))
    refine wpAny_pure ?_
    refine h ((s.heap.update a (Obj.putSet es1 t1)).update a (Obj.putSet es2 t2)) (sb.trans (Heap.SameBut.update _ a (Obj.putSet es2 t2))) ?_
    exact⟨es2,_,t2,cR.put (o:=default) o1,G2⟩
  · exact wpAny_pure (h _ sb ⟨es1,_,t1,o1,G⟩)
theorem Ei {k:Int}{tk:Tok}{Q:Bool→Shared→Prop}(hS:cR prog w led a ns s.heap)(hb:ns.length + 1 < scanBound)
    (h:∀ h' b,Heap.SameBut a s.heap h'→cR prog w led a (if k∈ns then ns else k :: ns) h'→Q b { s with heap:=h' }) :
    wpAny (model prog w) A (setAddHashed a (.int k tk) (hashInt k)) Q E s:=by
  obtain⟨es,ep,t,ho,G⟩:=hS
  have hkey:(intKind prog w).is k (.int k tk)=true:=by show Value.isInt k (Value.int k tk)=true;simp [Value.isInt]
  have hz:es.size < scanBound:=by rw [G.len];omega
  unfold setAddHashed setAddHashedIn
  refine wpAny_holding (wpAny_bind (wpAny_setState_of ho rfl G.fit ?_))
  dsimp only
  rw [byScan_of (knd:=intKind prog w) (x:=.int k tk) rfl hz G.el]
  simp only [↓reduceIte]
  unfold setAddByScan
  refine wpAny_bind (wpAny_bind (wpAny_rule (wpAny_bind (wpAny_setScan_of (knd:=intKind prog w) hkey ho rfl G.fit G.el ?_))))
  cases hr:List.findIdx? (fun e=>(intKind prog w).is k e.2) es.toList with
  | some j =>
    dsimp only
    obtain⟨hj,hp,_⟩:=List.findIdx?_eq_some_iff_getElem.mp hr
    have km:k∈ns:=(G.mem k).mpr ⟨_,List.getElem_mem hj,hp⟩
    refine wpAny_pure (wpAny_pure ?_)
    have:=h s.heap false (Heap.SameBut.refl a s.heap)
    rw [if_pos km] at this
    exact this ⟨es,ep,t,ho,G⟩
  | none =>
    dsimp only
    have km:k∉ns:=fun q=>by
      obtain⟨e,he,q⟩:=(G.mem k).mp q
      have:=List.findIdx?_eq_none_iff.mp hr e he
      rw [q] at this;cases this
    have pp:=layNew_perm t es ((intKind prog w).hash k) (.int k tk)
    have ff:=layNew_fits t es ((intKind prog w).hash k) (.int k tk)
    have gg:=G.gt.layNew es ((intKind prog w).hash k) (.int k tk)
    show wpAny (model prog w) A (_ >>= fun _=>_) _ _ _
    have hL:layNew t es (hashInt k) (.int k tk)=layNew t es ((intKind prog w).hash k) (.int k tk):=rfl
    simp only [hL]
    generalize layNew t es ((intKind prog w).hash k) (.int k tk)=L at pp ff gg ⊢
    obtain⟨es1,t1,wd,gv⟩:=L
    dsimp only at pp ff gg ⊢
    rw [Array.toList_push] at pp
    have G1:ue prog w led es1 t1 (k :: ns):=⟨(G.el.push hkey rfl).perm pp,(pp.map jW).trans (by
      rw [List.map_append]
      exact (List.perm_append_comm (l₁ := es.toList.map jW) (l₂ := [jW ((intKind prog w).hash k,Value.int k tk)])).trans (List.Perm.cons k G.ks)),ff,gg⟩
    have hgw:∀ (b:Bool) (s₁ : Shared) (Q':Unit→Shared→Prop),Q' () s₁ → wpAny (model prog w) A (match b with|true=>rule "set.scan.the-table-gave-way" | false=>pure ()) Q' E s₁ := fun b s₁ Q' q=>by
      cases b
      · exact wpAny_pure q
      · exact wpAny_rule q
    have fin:∀ {c:Bool} h',Heap.SameBut a s.heap h'→cR prog w led a (k :: ns) h'→Q c { s with heap:=h' }:=fun {c} h' q1 q2=>h h' c q1 (by rw [if_neg km];exact q2)
    refine wpAny_bind (hgw _ _ _ ?_)
    split
    · refine wpAny_bind ?_
      rw [hashByValue_scannable 8 (show (Value.int k tk).scannable=true from rfl)]
      refine wpAny_pure ?_
      simp only [plainKind,↓reduceIte]
      exact Bf hgw ho G1 hb fun h' q1 q2=>wpAny_pure (fin h' q1 q2)
    · refine wpAny_bind (wpAny_pure ?_)
      simp only [↓reduceIte]
      exact Bf hgw ho G1 hb fun h' q1 q2=>wpAny_pure (fin h' q1 q2)
end
end Fm
set_option linter.all false
namespace Fm
def nU (ns:List Int) (k:Int):List Int:=if k∈ns then ns else k :: ns
def dh (l:List Int):List Int:=l.foldl nU []
theorem Ej (ns:List Int)(k x:Int):x∈nU ns k ↔ x∈ns∨x=k:=by
  unfold nU
  split
  · rename_i h
    exact⟨.inl,fun q=>q.elim id fun e=>e ▸ h⟩
  · rw [List.mem_cons];exact Or.comm
theorem yS {ns:List Int}(h:ns.Nodup)(k:Int):(nU ns k).Nodup:=by
  unfold nU
  split
  · exact h
  · exact List.nodup_cons.mpr ⟨by assumption,h⟩
theorem wL:∀ (l acc:List Int) (x:Int),x∈l.foldl nU acc ↔ x∈acc∨x∈l
  | [],acc,x=>by simp
  | k :: l,acc,x=>by
    rw [List.foldl_cons,wL l,Ej,List.mem_cons,or_assoc]
theorem o9:∀ (l acc:List Int),acc.Nodup→(l.foldl nU acc).Nodup
  | [],acc,h=>h
  | k :: l,acc,h=>o9 l _ (yS h k)
theorem wM:∀ (l acc:List Int),(l.foldl nU acc).length≤acc.length + l.length
  | [],acc=>by simp
  | k :: l,acc=>by
    have:=wM l (nU acc k)
    have h:(nU acc k).length≤acc.length + 1:=by unfold nU;split<;>simp
    rw [List.foldl_cons,List.length_cons]
    omega
theorem Ci (l:List Int)(x:Int):x∈dh l ↔ x∈l:=by unfold dh;rw [wL];simp
theorem wN (l:List Int):(dh l).Nodup:=o9 l [] List.nodup_nil
theorem sC (l:List Int):(dh l).length≤l.length:=by unfold dh;have:=wM l [];simpa using this
theorem yT {l:List Int}{i:Nat}(h:i < l.length):dh (l.take (i + 1))=nU (dh (l.take i)) (l.getD i 0):=by
  unfold dh
  have e:l.take (i + 1)=l.take i++[l.getD i 0]:=by
    rw [List.take_add_one,List.getElem?_eq_getElem h]
    simp [List.getD,h]
  rw [e,List.foldl_append]
  rfl
@[simp] def pb (L:LF):LF:=fun σ h=>(L σ h).bind fun l h=>match eA l with
  | some xs=>if xs.length < 64 then .ok ((jd (dh xs)).map .int) h else .bad
  | none=>.bad
end Fm
set_option Elab.async false
set_option linter.all false
set_option maxRecDepth 100000
namespace Fm
open PySem PySem.Spec
section
variable {prog:Program} {w:World} {A:Around} {R:Result→Shared→Prop} {I:Addr} {fp wr:List Addr} {G:Array GenState→Array GenState→Prop} {P:Nat→Value→Prop} {St:Nat→Shared→Prop} {led:Bool}
theorem cR.kept {a:Addr}{ns:List Int}{h h':Heap}(x:cR prog w led a ns h)(k:∀ o,h.get? a=some o→h'.get? a=some o):cR prog w led a ns h':=by
  obtain⟨es,ep,t,ho,g⟩:=x
  exact⟨es,ep,t,k _ ho,g⟩
theorem Ek (ns:List Int)(W:WalksS prog w A.in1 I fp wr G ns.length P St)(S:Addr)(hSf:S∉fp)(hval:∀ i v,P i v → ∃ t,v=.int (ns.getD i 0) t)(hb:ns.length + 1 < scanBound) :
    ∀ (k i:Nat) (s:Shared),ns.length - i=k→i≤ns.length→St i s→cR prog w led S (dh (ns.take i)) s.heap →
      (∀ s',Moved (S :: wr) G s s'→cR prog w led S (dh ns) s'.heap→R (.ok (.ret .none)) s')→codeAny (model prog w) A (.builtin "set.update.loop" ⟨[.ref S,.ref I],[]⟩) R s:=by
  have hSw:S∉wr:=fun h=>hSf (W.sub _ h)
  have up:∀ b∈wr,b∈S :: wr:=fun b q=>List.mem_cons_of_mem _ q
  intro k
  induction k with
  | zero =>
    intro i s hk hi st hS hR
    have e:i=ns.length:=by omega
    subst e
    rw [List.take_length] at hS
    refine codeAny_builtin PyProof.Rows.F.entry_set_update_loop ?_
    rw [Around.under_plainId PyProof.Rows.F.plain_set_update_loop _]
    show wpAny _ A.in1 (pyNext (.ref I) >>= _) _ _ s
    refine wpAny_bind (W.done s _ _ st fun s' hm => ?_)
    show wpAny _ A.in1 (ret Value.none) _ _ s'
    exact wpAny_pure (hR s' (hm.mono up) (hS.kept fun o q=>hm.heap S o hSw q))
  | succ k ih =>
    intro i s hk hi st hS hR
    have hlt:i < ns.length:=by omega
    refine codeAny_builtin PyProof.Rows.F.entry_set_update_loop ?_
    rw [Around.under_plainId PyProof.Rows.F.plain_set_update_loop _]
    show wpAny _ A.in1 (pyNext (.ref I) >>= _) _ _ s
    refine wpAny_bind (W.item i s _ _ hlt st fun v s' hP st' hm => ?_)
    obtain⟨t,rfl⟩:=hval i v hP
    have hS1:cR prog w led S (dh (ns.take i)) s'.heap:=hS.kept fun o q=>hm.heap S o hSw q
    show wpAny _ A.in1 (holding [Value.int (ns.getD i 0) t] (setAdd S (.int (ns.getD i 0) t)) >>= _) _ _ s'
    unfold setAdd
    refine wpAny_bind (wpAny_holding (wpAny_holding (wpAny_bind (wpAny_pyHash_int ?_))))
    have room:(dh (ns.take i)).length + 1 < scanBound:=by
      have h1:=sC (ns.take i)
      rw [List.length_take] at h1
      omega
    refine Ei (s:={ s' with toks:=s'.toks + 1 }) hS1 room fun h' b sb hS2 => ?_
    have hS3:cR prog w led S (dh (ns.take (i + 1))) h':=by rw [yT hlt];exact hS2
    refine wpAny_pure ⟨plainId_quiet PyProof.Rows.F.plain_set_update_loop _,ih (i + 1) _ (by omega) hlt (W.frame _ s' _ _ st' (Nat.le_succ _) fun b hb o e => ?_) hS3 fun s'' hm2 hS4 => ?_⟩
    · rw [sb.2 b (fun q:b=S=>hSf (q ▸ hb))];exact e
    · refine hR s'' (Moved.trans W.gtrans ((hm.mono up).then_heap (Nat.le_succ _) fun b o hb e => ?_) hm2) hS4
      rw [sb.2 b (fun q:b=S=>hb (q ▸ List.mem_cons_self))];exact e
end
end Fm
set_option Elab.async false
set_option linter.all false
set_option maxRecDepth 100000
namespace Fm
open PySem PySem.Spec
def fB (w:World):Bool := !(w.params.followText "set-order")
def cJ (w:World):Obj:={ cls:=.type "set",dict:=none,data:=.set #[] 0 (.fresh 0 0 (fB w)) }
section
variable {prog:Program} {w:World} {A:Around} {E:Value→Shared→Prop} {s:Shared}
theorem GG (a:Value){Q:Value→Shared→Prop}(h:Q (.ref s.heap.objs.size) { s with heap:=s.heap.push (cJ w) }) :
    codeAny (model prog w) A (.call (.builtin "set.__new__") ⟨[.type "set",a],[]⟩) (wants Q E) s:=by
  refine codeAny_of_tree ?_
  show wpAny _ A.in1 (checkBuiltinCall "set.__new__" ⟨[.type "set",a],[]⟩ >>= fun _=>again (.builtin "set.__new__" ⟨[.type "set",a],[]⟩)) _ _ s
  refine wpAny_bind (wpAny_of_eq (F.newCall_set_1 a) (wpAny_pure ⟨plainId_quiet F.plain_set_new _,codeAny_builtin F.entry_set_new ?_⟩))
  rw [Around.under_plainId F.plain_set_new _]
  unfold Builtin.«set.__new__» Builtin.Frozenset.newClass
  have hs:=sub_set_self
  obtain⟨hp,g,d,tk,os⟩:=s
  dsimp only
  wp_walk
  refine wpAny_askSetting (wpAny_pure ?_)
  dsimp only
  simp only [newObj]
  exact wpAny_bind (wpAny_alloc (wpAny_pure (wpAny_pure h)))
theorem Cj (ns:List Int)(e:ns=[]):cR prog w (fB w) s.heap.objs.size ns (s.heap.push (cJ w)):=by
  subst e
  exact⟨#[],0,_,Heap.get?_push_size _ rfl,fun e he=>by simp at he,List.Perm.nil,rfl,GT.fresh _⟩
set_option maxHeartbeats 3200000 in
theorem wO {l:Addr}{items:Array Value}{ns:List Int}{Q:Value→Shared→Prop}(hh:A.handled=none)(hl:s.heap.IsList l items)(hi:PyProof.Rows.IntsAre items.toList ns)(hb:ns.length + 1 < scanBound)
    (h:∀ (h':Heap) (tk:Nat),cR prog w (fB w) s.heap.objs.size (dh ns) h'→(∀ b o,s.heap.get? b=some o→h'.get? b=some o)→Q (.ref s.heap.objs.size) { s with heap:=h',toks:=tk }) :
    wpAny (model prog w) A (call (.type "set") [.ref l]) Q E s:=by
  obtain⟨c,tl,hmro⟩:=F.called_set.mro
  have hmade:=F.called_set.made
  have hsub:=F.called_set.sub
  refine wpAny_call (codeAny_of_tree ?_)
  show wpAny _ _ (callAny (.type "set") _) _ _ _
  refine wpAny_pure ⟨Code.quiet_builtin _ (by decide +kernel),codeAny_builtin F.entry_type_call ?_⟩
  rw [Around.under_plain (weight_type_call_type "set" [.ref l] []) rfl]
  have h1:=F.called_set.notType
  have h2:=F.called_set.canCreate
  have hct:=F.typeCall_set_1 (.ref l)
  repeat (any_goals (first|assumption|wp_step))
  refine codeAny_mono (GG (.ref l) (E:=E) (Q:=fun v s₁ => v=.ref s.heap.objs.size∧s₁ = { s with heap:=s.heap.push (cJ w) }) ⟨rfl,rfl⟩) fun r s₁ hr => ?_
  cases r with
  | error e=>exact hr
  | ok fl =>
    cases fl with
    | ret obj =>
      obtain⟨rfl,rfl⟩:=hr
      have hS:(s.heap.push (cJ w)).get? s.heap.objs.size=some (cJ w):=Heap.get?_push_size _ rfl
      have hT:Shared.TypeIs { s with heap:=s.heap.push (cJ w) } (.ref s.heap.objs.size) "set" := ⟨_,hS,rfl⟩
      have hli:=F.called_set.init.lookup
      have hbi:=F.called_set.init.bind (.ref s.heap.objs.size)
      repeat (any_goals (first|assumption|wp_step))
      refine codeAny_mono (codeAny_call_builtin (R:=wants (fun r s₂ => r=.none ∧ ∃ h' tk,s₂ = { s with heap:=h',toks:=tk } ∧ cR prog w (fB w) s.heap.objs.size (dh ns) h'∧(∀ b o,s.heap.get? b=some o→h'.get? b=some o)) E) F.called_set.init.plain F.entry_set_init (check_set_init_1 hT ?_)) fun r₂ s₂ hr₂ => ?_
      · obtain⟨ol,hol,hcl,nl,hdl⟩:=hl
        obtain⟨ocls,odict,odata,oslots⟩:=ol
        simp only at hcl hdl
        subst hcl;subst hdl
        have ho1:(s.heap.push (cJ w)).get? l=some { cls:=.type "list",dict:=odict,data:=.seq items nl,slots:=oslots }:=Heap.get?_push_of_some _ hol
        have hsls:=F.sub_list_set
        have hslf:=F.sub_list_frozenset
        have hne:(Value.type "list" == Value.type "dict")=false:=by decide
        have hl1:(s.heap.push (cJ w)).IsList l items:=⟨_,ho1,rfl,nl,rfl⟩
        unfold Builtin.«set.__init__» noKeywords Builtin.Frozenset.updateFrom
        generalize hPI:pyIter=PI
        wp_walk
        subst hPI
        refine wpAny_pyIter_list hl1 ?_
        refine wpAny_bind (wpAny_runValue ?_)
        have lt:l < s.heap.objs.size:=Heap.lt_size hol
        have hh3:A.in1.in1.in1.handled=none:=by simp [hh]
        have nI:l≠(s.heap.push (cJ w)).objs.size:=by rw [Heap.size_push];exact Nat.ne_of_lt (Nat.lt_succ_of_lt lt)
        have nS:s.heap.objs.size∉[(s.heap.push (cJ w)).objs.size,l]:=by
          rw [Heap.size_push]
          simp only [List.mem_cons,List.not_mem_nil,or_false,not_or]
          exact⟨Nat.ne_of_lt (Nat.lt_succ_self _),Nat.ne_of_gt lt⟩
        have hlen:items.size=ns.length:=by have:=PyProof.Rows.IntsAre.length hi;simpa using this
        have hval:∀ (i:Nat) (v:Value),items[i]? = some v → ∃ t,v=.int (ns.getD i 0) t:=fun i v hv=>PyProof.Rows.IntsAre.int_at hi i v (by rw [Array.getElem?_toList];exact hv)
        have W:=(Walks.list (prog:=prog) (w:=w) hh3 (s.heap.push (cJ w)).objs.size l nI items).toS
        rw [hlen] at W
        refine Ek (led:=fB w) ns W s.heap.objs.size nS hval hb (ns.length - 0) 0 _ rfl (Nat.zero_le _) ⟨⟨_,Heap.get?_push_size _ rfl,rfl,rfl⟩,hl1.push _⟩ ((Cj _ rfl).kept fun o q=>Heap.get?_push_of_some _ q) fun s' hm hS' => ?_
        obtain⟨h',g',d',tk',os'⟩:=s'
        have eg:g'=s.gens:=hm.gens
        have ed:d'=s.drawn:=hm.drawn
        have eo:os'=s.os:=hm.os
        subst eg;subst ed;subst eo
        show wpAny _ _ _ _ _ _
        refine wpAny_pure ?_
        show wpAny _ _ (ret Value.none) _ _ _
        refine wpAny_pure ⟨rfl,h',tk',rfl,hS',fun b o e => ?_⟩
        have hlt:=Heap.lt_size e
        exact hm.heap b o (by rw [Heap.size_push];simp only [List.mem_cons,List.not_mem_nil,or_false,not_or];exact⟨Nat.ne_of_lt hlt,Nat.ne_of_lt (Nat.lt_succ_of_lt hlt)⟩) (Heap.get?_push_of_some _ (Heap.get?_push_of_some _ e))
      · cases r₂ with
        | error e=>exact hr₂
        | ok fl₂ =>
          cases fl₂ with
          | ret r =>
            obtain⟨rfl,h',tk,rfl,hS',hk'⟩:=hr₂
            repeat (any_goals (first|assumption|wp_step))
            exact h _ _ hS' hk'
          | _=>exact hr₂.elim
    | _=>exact hr.elim
end
end Fm
set_option Elab.async false
set_option linter.all false
set_option maxRecDepth 100000
namespace Fm
open PySem PySem.Spec
theorem cu:Slot "set_iterator" "__next__" "set_iterator.__next__" :=
  .of (owner := "set_iterator") (n := "__next__") (by rw [typeLookup_type,builtinLookup_eq_fast];kernel_rfl) (by decide +kernel) (by decide +kernel) (by decide +kernel) (by first|exact .inl (by decide +kernel)|exact .inr (by decide +kernel)) (by rw [isSubtype_type];kernel_rfl)
theorem pc:Slot "set_iterator" "__iter__" "set_iterator.__iter__" :=
  .of (owner := "set_iterator") (n := "__iter__") (by rw [typeLookup_type,builtinLookup_eq_fast];kernel_rfl) (by decide +kernel) (by decide +kernel) (by decide +kernel) (by first|exact .inl (by decide +kernel)|exact .inr (by decide +kernel)) (by rw [isSubtype_type];kernel_rfl)
theorem ix:entryFor table "set_iterator.__next__" = some Builtin.«set_iterator.__next__» := entryFor_of_tree (by kernel_rfl)
theorem jM (a:Value):argsOk "set_iterator.__next__" ⟨[a],[]⟩:=by unfold argsOk;kernel_rfl
theorem yU:entryFor table "set.__iter__" = some Builtin.«frozenset.__iter__» := entryFor_alias (id' := "frozenset.__iter__") (by kernel_rfl) rfl (by decide +kernel) (by kernel_rfl)
theorem wP:entryFor table "set_iterator.__iter__" = some Builtin.«dict_keyiterator.__iter__» := entryFor_alias (id' := "dict_keyiterator.__iter__") (by kernel_rfl) rfl (by decide +kernel) (by kernel_rfl)
theorem yV (a:Value):argsOk "set_iterator.__iter__" ⟨[a],[]⟩:=by unfold argsOk;kernel_rfl
def je (first:Value) (i:Nat) (q:Addr) (n ep:Nat):Obj:={ cls:=.type "set_iterator",data:=.fields #[first,.int i 0,.ref q,.int n 0,.int ep 0] }
def jf (es:Array (Int × Value)) (ep:Nat) (t:SetTable):Obj:={ cls:=.type "set",dict:=none,data:=.set es ep t }
section
variable {prog:Program} {w:World} {A:Around} {E:Value→Shared→Prop} {s:Shared} {I q:Addr} {i n ep sl sl':Nat} {es:Array (Int × Value)} {t:SetTable} {x:Value}
def lT (prog:Program) (w:World) (q:Addr) (es:Array (Int × Value)) (ep:Nat) (t:SetTable) (sl i:Nat) (r:Option (Value × Nat)):Prop :=
  ∀ (A:Around) (Q:Option (Value × Nat)→Shared→Prop) (E:Value→Shared→Prop) (s:Shared),s.heap.get? q=some (jf es ep t)→Q r s→wpAny (model prog w) A (setNext q sl i ep) Q E s
theorem yW {Q:Option Value→Shared→Prop}(hit:s.heap.get? I=some (je (.int sl 0) i q n ep))(hq:s.heap.get? q=some (jf es ep t))(fit:t.fits es.size=true)(hn:es.size=n)(N:lT prog w q es ep t sl i (some (x,sl')))
    (hQ:∀ h',h'.get? I=some (je (.int sl' 0) (i + 1) q n ep)→Heap.SameBut I s.heap h'→Q (some x) { s with heap:=h' }):wpAny (model prog w) A (pyNext (.ref I)) Q E s:=by
  have hT:s.TypeIs (.ref I) "set_iterator" := ⟨_,hit,rfl⟩
  unfold pyNext
  refine wpAny_bind (wpAny_attempt (wpAny_callSpecial?_slot (name:=Str.ofString "__next__") hT cu (wpAny_call_entry cu hT ix ?_ (jM _))))
  unfold Builtin.«set_iterator.__next__»
  refine wpAny_bind (wpAny_pure ?_)
  refine wpAny_bind (wpAny_fieldsOf hit rfl ?_)
  show wpAny _ _ (setEntries q >>= _) _ _ s
  refine wpAny_bind (wpAny_setEntries_of hq rfl fit ?_)
  rw [if_neg (by rw [hn];simp)]
  show wpAny _ _ (setNext q sl i ep >>= _) _ _ s
  refine wpAny_bind (N _ _ _ _ hq ?_)
  dsimp only
  refine wpAny_bind (wpAny_setField hit rfl (by simp) ?_)
  have h1:(s.heap.update I (Obj.mapFields (·.setIfInBounds 0 (rawInt sl')))).get? I=some (je (.int sl' 0) i q n ep):=Heap.get?_update_self _ hit rfl
  refine wpAny_bind (wpAny_setField h1 rfl (by simp) ?_)
  have h2:=Heap.get?_update_self (Obj.mapFields (·.setIfInBounds 1 (rawInt ((i:Int) + 1)))) h1 rfl
  refine wpAny_pure ⟨x,rfl,wpAny_pure (hQ _ h2 ((Heap.SameBut.update ..).trans (Heap.SameBut.update ..)))⟩
theorem sD {h0:Heap}{Q:Option Value→Shared→Prop}(hh:A.handled=none)(hQ:∀ h',(∀ b o,b≠I→s.heap.get? b=some o→h'.get? b=some o)→Q none { s with heap:=h' })(k:∀ b o,b≠I→s.heap.get? b=some o→h0.get? b=some o) :
    wpAny (model prog w) A.in1 (newExc (.type "StopIteration") [] >>= fun e=>(raiseNew e:Sem Fin)) (fun _ _=>False) (fun e s'=>wpAny (model prog w) A (isInstance e (.type "StopIteration") >>= fun b=>if b=true then (pure none:Sem (Option Value)) else throw e) Q E s') { s with heap:=h0 }:=by
  refine wpAny_bind ?_
  simp only [newExc,newTuple]
  refine wpAny_bind (wpAny_newObj_type ?_ (by size_fits))
  refine wpAny_bind (m:=firstArgMember _ _) (wpAny_of_eq (a:=Value.none) (by first|rfl|(simp only [firstArgMember];rfl)) ?_)
  refine wpAny_newObj_type ?_ (by size_fits)
  simp only [raiseNew]
  refine wpAny_bind (wpAny_handled ?_)
  rw [show A.in1.handled=none from hh]
  refine wpAny_bind (wpAny_pure (wpAny_throw ?_))
  refine wpAny_bind (wpAny_isInstance (T := "StopIteration") (b:=true) ⟨_,Heap.get?_push_size _ rfl,rfl⟩ isSubtype_stop ?_)
  exact wpAny_pure (hQ _ fun b o nb e=>Heap.get?_push_of_some _ (Heap.get?_push_of_some _ (k b o nb e)))
theorem Ck {Q:Option Value→Shared→Prop}(hh:A.handled=none)(hit:s.heap.get? I=some (je (.int sl 0) i q n ep))(hq:s.heap.get? q=some (jf es ep t))(fit:t.fits es.size=true)(hn:es.size=n)(N:lT prog w q es ep t sl i none)
    (hQ:∀ h',(∀ b o,b≠I→s.heap.get? b=some o→h'.get? b=some o)→Q none { s with heap:=h' }):wpAny (model prog w) A (pyNext (.ref I)) Q E s:=by
  have hT:s.TypeIs (.ref I) "set_iterator" := ⟨_,hit,rfl⟩
  unfold pyNext
  refine wpAny_bind (wpAny_attempt (wpAny_callSpecial?_slot (name:=Str.ofString "__next__") hT cu (wpAny_call_entry cu hT ix ?_ (jM _))))
  unfold Builtin.«set_iterator.__next__»
  refine wpAny_bind (wpAny_pure ?_)
  refine wpAny_bind (wpAny_fieldsOf hit rfl ?_)
  show wpAny _ _ (setEntries q >>= _) _ _ s
  refine wpAny_bind (wpAny_setEntries_of hq rfl fit ?_)
  rw [if_neg (by rw [hn];simp)]
  show wpAny _ _ (setNext q sl i ep >>= _) _ _ s
  refine wpAny_bind (N _ _ _ _ hq ?_)
  dsimp only
  refine wpAny_bind (wpAny_setField hit rfl (by simp) ?_)
  refine wpAny_mono (sD (s:=s) (I:=I) (E:=E) hh hQ fun b o nb e=>(Heap.get?_update_ne _ _ _ _ nb).trans e) (fun _ _ z=>z.elim) fun e s' z=>z
theorem yX {T:Addr} {ps:List Nat} {m p:Nat} {y:Int} {Q:Option Value→Shared→Prop} (hit:s.heap.get? I=some (je (.ref T) i q n ep)) (hq:s.heap.get? q=some (jf es ep t)) (hT2:s.heap.get? T=some { cls:=.type "tuple",data:=.seq (ps.map fun (k:Nat)=>Value.int k 0).toArray m }) (fit:t.fits es.size=true) (hn:es.size=n) (hp:ps[i]? = some p) (hx:es[p]? = some (y,x))
    (hQ:∀ h',h'.get? I=some (je (.ref T) (i + 1) q n ep)→Heap.SameBut I s.heap h'→Q (some x) { s with heap:=h' }):wpAny (model prog w) A (pyNext (.ref I)) Q E s:=by
  have hT:s.TypeIs (.ref I) "set_iterator" := ⟨_,hit,rfl⟩
  unfold pyNext
  refine wpAny_bind (wpAny_attempt (wpAny_callSpecial?_slot (name:=Str.ofString "__next__") hT cu (wpAny_call_entry cu hT ix ?_ (jM _))))
  unfold Builtin.«set_iterator.__next__»
  refine wpAny_bind (wpAny_pure ?_)
  refine wpAny_bind (wpAny_fieldsOf hit rfl ?_)
  show wpAny _ _ (setEntries q >>= _) _ _ s
  refine wpAny_bind (wpAny_setEntries_of hq rfl fit ?_)
  rw [if_neg (by rw [hn];simp)]
  show wpAny _ _ (seqItems? (.ref T) >>= _) _ _ s
  refine wpAny_bind (wpAny_seqItems hT2 rfl ?_)
  have hp2:(ps.map fun (k:Nat)=>Value.int k 0).toArray[((i:Int)).toNat]? = some (.int p 0):=by simp [hp]
  simp only [hp2]
  show wpAny _ _ (setNextDrawn q p ep >>= _) _ _ s
  unfold setNextDrawn
  refine wpAny_bind (wpAny_bind (wpAny_setState_of hq rfl fit ?_))
  simp only [bne_self_eq_false,Bool.false_eq_true,if_false,hx]
  refine wpAny_pure ?_
  refine wpAny_bind (wpAny_setField hit rfl (by simp) ?_)
  have h2:=Heap.get?_update_self (Obj.mapFields (·.setIfInBounds 1 (rawInt ((i:Int) + 1)))) hit rfl
  refine wpAny_pure ⟨x,rfl,wpAny_pure (hQ _ h2 (Heap.SameBut.update ..))⟩
theorem Cl {T:Addr} {ps:List Nat} {m:Nat} {Q:Option Value→Shared→Prop} (hh:A.handled=none) (hit:s.heap.get? I=some (je (.ref T) i q n ep)) (hq:s.heap.get? q=some (jf es ep t)) (hT2:s.heap.get? T=some { cls:=.type "tuple",data:=.seq (ps.map fun (k:Nat)=>Value.int k 0).toArray m }) (fit:t.fits es.size=true) (hn:es.size=n) (hp:ps[i]? = none)
    (hQ:∀ h',(∀ b o,b≠I→s.heap.get? b=some o→h'.get? b=some o)→Q none { s with heap:=h' }):wpAny (model prog w) A (pyNext (.ref I)) Q E s:=by
  have hT:s.TypeIs (.ref I) "set_iterator" := ⟨_,hit,rfl⟩
  unfold pyNext
  refine wpAny_bind (wpAny_attempt (wpAny_callSpecial?_slot (name:=Str.ofString "__next__") hT cu (wpAny_call_entry cu hT ix ?_ (jM _))))
  unfold Builtin.«set_iterator.__next__»
  refine wpAny_bind (wpAny_pure ?_)
  refine wpAny_bind (wpAny_fieldsOf hit rfl ?_)
  show wpAny _ _ (setEntries q >>= _) _ _ s
  refine wpAny_bind (wpAny_setEntries_of hq rfl fit ?_)
  rw [if_neg (by rw [hn];simp)]
  show wpAny _ _ (seqItems? (.ref T) >>= _) _ _ s
  refine wpAny_bind (wpAny_seqItems hT2 rfl ?_)
  have hp2:(ps.map fun (k:Nat)=>Value.int k 0).toArray[((i:Int)).toNat]? = none:=by
    rw [List.getElem?_eq_none_iff] at hp
    simp [hp]
  simp only [hp2]
  refine wpAny_bind (wpAny_setField hit rfl (by simp) ?_)
  have h1:(s.heap.update I (Obj.mapFields (·.setIfInBounds 0 (rawInt 0)))).get? I=some (je (.int 0 0) i q n ep):=Heap.get?_update_self _ hit rfl
  refine wpAny_bind (wpAny_setField h1 rfl (by simp) ?_)
  refine wpAny_mono (sD (s:=s) (I:=I) (E:=E) hh hQ fun b o nb e=>(Heap.get?_update_ne _ _ _ _ nb).trans ((Heap.get?_update_ne _ _ _ _ nb).trans e)) (fun _ _ z=>z.elim) fun e s' z=>z
theorem wQ {first:Value}{Q:Value→Shared→Prop}(hit:s.heap.get? I=some (je first i q n ep))(h:Q (.ref I) s):wpAny (model prog w) A (pyIter (.ref I)) Q E s:=by
  have hT:s.TypeIs (.ref I) "set_iterator" := ⟨_,hit,rfl⟩
  refine wpAny_pyIter_slot hT pc (wpAny_call_entry pc hT wP ?_ (yV _))
  unfold Builtin.«dict_keyiterator.__iter__»
  refine wpAny_bind (wpAny_pure ?_)
  exact wpAny_pure ⟨_,rfl, "set_iterator",_,hT,cu.lookup,h⟩
theorem HR (hh:A.handled=none)(hne:q≠I)(fit:t.fits es.size=true)(sl:Nat→Nat)(v:Nat→Value)(N:∀ i,i < es.size→lT prog w q es ep t (sl i) i (some (v i,sl (i + 1))))(Ne:lT prog w q es ep t (sl es.size) es.size none) :
    Walks prog w A I [I,q] [I] es.size (fun i x=>x=v i) (fun i h=>h.get? I=some (je (.int (sl i) 0) i q es.size ep)∧h.get? q=some (jf es ep t)) where
  sub:=fun b hb=>by simp at hb;simp [hb]
  frame:=fun _ _ _ st hk=>⟨hk I (by simp) _ st.1,hk q (by simp) _ st.2⟩
  item:=fun i s Q E hi st hQ=>yW st.1 st.2 fit rfl (N i hi) fun h' hit sb=>hQ _ h' s.toks rfl ⟨hit,(sb.2 q hne).trans st.2⟩ fun b o hb e=>(sb.2 b fun z=>hb (by simp [z])).trans e
  done:=fun s Q E st hQ=>Ck hh st.1 st.2 fit rfl Ne fun h' k=>hQ h' s.toks fun b o hb e=>k b o (fun z=>hb (by simp [z])) e
  self:=fun _ _ _ _ st hQ=>wQ st.1 hQ
theorem Ku {T:Addr}{ps:List Nat}(hh:A.handled=none)(hne:q≠I)(hnT:T≠I)(fit:t.fits es.size=true)(hl:ps.length=es.size)(hp:∀ (i p:Nat),ps[i]? = some p→p < es.size) :
    Walks prog w A I [I,q,T] [I] es.size (fun i x=>∃ p y,ps[i]? = some p∧es[p]? = some (y,x)) (fun i h=>h.get? I=some (je (.ref T) i q es.size ep)∧h.get? q=some (jf es ep t)∧h.get? T=some { cls:=.type "tuple",data:=.seq (ps.map fun (k:Nat)=>Value.int k 0).toArray 0 }) where
  sub:=fun b hb=>by simp at hb;simp [hb]
  frame:=fun _ _ _ st hk=>⟨hk I (by simp) _ st.1,hk q (by simp) _ st.2.1,hk T (by simp) _ st.2.2⟩
  item:=fun i s Q E hi st hQ=>by
    have hi2:i < ps.length:=by omega
    have e1:ps[i]? = some ps[i]:=List.getElem?_eq_getElem hi2
    have hz:=hp i _ e1
    have e2:es[ps[i]]? = some (es[ps[i]].1,es[ps[i]].2):=Array.getElem?_eq_getElem hz
    exact yX st.1 st.2.1 st.2.2 fit rfl e1 e2 fun h' hit sb=>hQ _ h' s.toks ⟨_,_,e1,e2⟩ ⟨hit,(sb.2 q hne).trans st.2.1,(sb.2 T hnT).trans st.2.2⟩ fun b o hb e=>(sb.2 b fun z=>hb (by simp [z])).trans e
  done:=fun s Q E st hQ=>Cl hh st.1 st.2.1 st.2.2 fit rfl (List.getElem?_eq_none (by omega)) fun h' k=>hQ h' s.toks fun b o hb e=>k b o (fun z=>hb (by simp [z])) e
  self:=fun _ _ _ _ st hQ=>wQ st.1 hQ
end
end Fm
set_option Elab.async false
set_option linter.all false
set_option maxRecDepth 100000
namespace Fm
open PySem PySem.Spec
theorem ko {α : Type}:∀ (l:List α) (i:Nat) (x : α),l[i]? = some x→(x :: l.eraseIdx i).Perm l
  | [],_,_,e=>by simp at e
  | y :: l,0,x,e=>by simp at e;subst e;exact List.Perm.refl _
  | y :: l,i + 1,x,e=>by
    rw [List.eraseIdx_cons_succ]
    exact (List.Perm.swap y x _).trans (List.Perm.cons y (ko l i x (by simpa using e)))
theorem Bg {α : Type}(f:Nat→Nat):∀ (n k:Nat) (left:List α) (out:Array α),left.length=n→(pickOrder.go f n k left out).toList.Perm (out.toList++left)
  | 0,k,left,out,h=>by
    have:left=[]:=List.length_eq_zero_iff.mp h
    subst this
    simp [pickOrder.go]
  | n + 1,k,left,out,h=>by
    unfold pickOrder.go
    have hi:f k % left.length < left.length:=Nat.mod_lt _ (by omega)
    have e:left[f k % left.length]? = some (left[f k % left.length]):=List.getElem?_eq_getElem hi
    rw [e]
    refine (Bg f n (k + 1) _ _ (by rw [List.length_eraseIdx_of_lt hi];omega)).trans ?_
    rw [Array.toList_push,List.append_assoc]
    exact List.Perm.append_left _ (ko _ _ _ e)
theorem Cm {α : Type}(f:Nat→Nat)(xs:Array α):(pickOrder f xs).toList.Perm xs.toList:=by
  have:=Bg f xs.size 0 xs.toList #[] (by simp)
  simpa [pickOrder] using this
section
variable {M:Model} {prog:Program} {w:World} {A:Around} {E:Value→Shared→Prop} {s:Shared}
theorem Cn {src:Source}{n:Nat}{Q:Nat→Shared→Prop}(hn:n≠0)(h:∀ i dr,i < n→Q i { s with drawn:=dr }):wpAny M A (choose src n) Q E s:=by
  intro Γ p _
  exact⟨hn,h _ _ (Nat.mod_lt _ (Nat.pos_of_ne_zero hn))⟩
theorem sE {α : Type}:∀ (n:Nat) (xs:List α) {s:Shared} {Q:List α → Shared→Prop},xs.length=n→(∀ ys dr,ys.Perm xs→Q ys { s with drawn:=dr })→wpAny M A (drawOrder n xs) Q E s
  | 0,xs,s,Q,hl,h=>by
    have e:xs=[]:=List.length_eq_zero_iff.mp hl
    subst e
    exact wpAny_pure (h [] s.drawn (List.Perm.refl _))
  | n + 1,[],s,Q,hl,h=>by simp at hl
  | n + 1,x :: xs,s,Q,hl,h=>by
    unfold drawOrder
    refine wpAny_bind (Cn (by simp) fun i dr hi => ?_)
    have e:(x :: xs)[i]? = some (x :: xs)[i]:=List.getElem?_eq_getElem hi
    rw [e]
    dsimp only
    refine wpAny_bind (sE n _ (s:={ s with drawn:=dr }) (by rw [List.length_eraseIdx_of_lt hi];omega) fun ys dr' p => ?_)
    exact wpAny_pure (h _ dr' ((List.Perm.cons _ p).trans (ko _ _ _ e)))
theorem oo {Q:Bool→Shared→Prop} (h:Q (w.params.followText "set-order") s):wpAny (model prog w) A setsByText Q E s:=by
  unfold setsByText
  exact wpAny_bind (wpAny_askSetting (wpAny_pure h))
variable {q:Addr} {es:Array (Int × Value)} {ep:Nat} {t:SetTable} {ns:List Int}
theorem HS (hb:w.params.followText "set-order" = true) (fit:t.fits es.size=true) (i:Nat):lT prog w q es ep t 0 i (((pickOrder (w.params.setOrder q ep) es)[i]?).map fun e=>(e.2,0)):=by
  intro A Q E s hq h
  unfold setNext
  refine wpAny_bind (wpAny_setState_of hq rfl fit ?_)
  refine wpAny_bind (oo ?_)
  refine wpAny_ite_split (fun _ => ?_) fun z=>absurd hb z
  refine wpAny_ite_split (fun z=>by simp at z) fun _ => ?_
  unfold setWalk
  refine wpAny_bind (wpAny_bind (wpAny_setState_of hq rfl fit ?_))
  refine wpAny_bind (oo ?_)
  refine wpAny_ite_split (fun _ => ?_) fun z=>absurd hb z
  exact wpAny_bind (wpAny_askSetting (wpAny_pure (wpAny_pure h)))
theorem HU (hb:w.params.followText "set-order" = false) (fit:t.fits es.size=true) (g:GT true t) (hd:(!t.plain && decide (es.size > 1))=false) (sl i:Nat):lT prog w q es ep t sl i (match es[SetTable.below t.place sl]?,t.place[SetTable.below t.place sl]? with|some (_,x),some j=>some (x,j + 1)|_,_=>none):=by
  intro A Q E s hq h
  unfold setNext
  refine wpAny_bind (wpAny_setState_of hq rfl fit ?_)
  refine wpAny_bind (oo ?_)
  refine wpAny_ite_split (fun z=>by rw [hb] at z;cases z) fun _ => ?_
  refine wpAny_ite_split (fun z=>absurd (show (!t.plain && decide (es.size > 1))=true from z) (by rw [hd];simp)) fun _ => ?_
  refine wpAny_bind (m:=if (!t.led && !es.isEmpty)=true then unsupported "set:maker-not-led" else pure ()) ?_
  rw [g.le]
  exact wpAny_pure (wpAny_pure h)
end
end Fm
set_option Elab.async false
set_option linter.all false
set_option maxRecDepth 100000
namespace Fm
open PySem PySem.Spec
section
variable {prog:Program} {w:World} {A:Around} {E:Value→Shared→Prop} {s:Shared} {q:Addr} {es:Array (Int × Value)} {ep:Nat} {t:SetTable} {ns:List Int} {led:Bool}
theorem Bh:∀ (l:List (Int × Value)),ElemsOf (intKind prog w) l→PyProof.Rows.IntsAre (l.map (·.2)) (l.map jW)
  | [],_=>.nil
  | e :: l,h=>by
    obtain⟨⟨k,h1,_⟩,_⟩:=h e (.head _)
    obtain⟨tk,h2⟩:=Value.isInt_shape (show Value.isInt k e.2=true from h1)
    have h3:jW e=k:=uf h1
    rw [List.map_cons,List.map_cons,h3,h2]
    exact .cons k tk (Bh l fun x hx=>h x (.tail _ hx))
theorem pf (G:ue prog w led es t ns){l:List (Int × Value)}(p:l.Perm es.toList){P:Nat→Value→Prop}(hP:∀ j v,P j v→j < l.length→v=(l.getD j (0,.none)).2){acc:Array Value}(h:ItemsOf P acc ns.length) :
    ∃ ms,PyProof.Rows.IntsAre acc.toList ms∧ms.Perm ns:=by
  have hl:l.length=ns.length:=by rw [p.length_eq,Array.length_toList,G.len]
  have e:acc.toList=l.map (·.2):=by
    apply List.ext_getElem?
    intro j
    by_cases hj:j < ns.length
    · have h1:j < acc.size:=by rw [h.1];exact hj
      have h2:j < l.length:=by omega
      have h3:=hP j acc[j] (h.2 j _ (Array.getElem?_eq_getElem h1)) h2
      rw [Array.getElem?_toList,Array.getElem?_eq_getElem h1,h3]
      simp [List.getD,h2]
    · rw [List.getElem?_eq_none (by rw [Array.length_toList,h.1];omega),List.getElem?_eq_none (by simp;omega)]
  refine⟨l.map jW,?_,(p.map jW).trans G.ks⟩
  rw [e]
  exact Bh (prog:=prog) (w:=w) l (G.el.perm p)
theorem El {α : Type}(d : α)(es:Array α):(List.range es.size).map (fun p=>es.getD p d)=es.toList:=by
  apply List.ext_getElem?
  intro j
  by_cases hj:j < es.size
  · simp [hj,Array.getD]
  · simp [hj]
theorem Em (h:t.fits es.size=true):t.place.size=es.size:=by
  simp only [SetTable.fits,Bool.and_eq_true,beq_iff_eq] at h
  exact h.1
def ni (t:SetTable):Nat→Nat
  | 0=>0
  | i + 1=>t.place.getD i 0 + 1
theorem Eo {Q:Value→Shared→Prop}(hS:cR prog w (fB w) q ns s.heap)(hb:ns.length < scanBound)
    (h:∀ (I:Addr) (h':Heap) (dr:Drawn) (fp:List Addr) (P:Nat→Value→Prop) (St:Nat→Heap→Prop),(∀ b o,s.heap.get? b=some o→h'.get? b=some o)→s.heap.objs.size≤I→(∀ b∈fp,b=q∨s.heap.objs.size≤b) →
      (∀ A':Around,A'.handled=none→Walks prog w A' I fp [I] ns.length P St)→St 0 h'→(∀ acc,ItemsOf P acc ns.length → ∃ ms,PyProof.Rows.IntsAre acc.toList ms∧ms.Perm ns)→Q (.ref I) { s with heap:=h',drawn:=dr }) :
    wpAny (model prog w) A (pyIter (.ref q)) Q E s:=by
  obtain⟨es,ep,t,hq,G⟩:=hS
  have hT:s.TypeIs (.ref q) "set" := ⟨_,hq,rfl⟩
  have hlt:q < s.heap.objs.size:=Heap.lt_size hq
  have hne:q≠s.heap.objs.size:=Nat.ne_of_lt hlt
  have hsz:=G.len
  have hps:=Em G.fit
  refine wpAny_pyIter_slot hT F.slot_set_iter (wpAny_call_entry F.slot_set_iter hT yU ?_ (F.args_set_iter_1 _))
  unfold Builtin.«frozenset.__iter__» Builtin.Frozenset.slot0 Builtin.Frozenset.sizeOf
  refine wpAny_bind (wpAny_bind (wpAny_pure (wpAny_pure ?_)))
  refine wpAny_bind (wpAny_bind (wpAny_setEntries_of hq rfl G.fit (wpAny_pure ?_)))
  unfold setDrawn
  refine wpAny_bind (wpAny_bind (wpAny_setState_of hq rfl G.fit ?_))
  refine wpAny_bind (oo (wpAny_pure ?_))
  cases hB:w.params.followText "set-order" with
  | true =>
    refine wpAny_ite_split (fun z=>by simp at z) fun _ => ?_
    refine wpAny_bind (wpAny_pure (wpAny_bind ?_))
    unfold setEpoch
    refine wpAny_bind (wpAny_setState_of hq rfl G.fit (wpAny_pure ?_))
    refine wpAny_bind (wpAny_newObj_type ?_ (by size_fits))
    refine wpAny_pure ⟨_,rfl, "set_iterator",_,⟨_,Heap.get?_push_size _ rfl,rfl⟩,cu.lookup,?_⟩
    have pp:=Cm (w.params.setOrder q ep) es
    have hpz:(pickOrder (w.params.setOrder q ep) es).size=es.size:=by have:=pp.length_eq;simpa using this
    have W:=fun (A':Around) (hA:A'.handled=none)=>HR (prog:=prog) (w:=w) (A:=A') (ep:=ep) hA hne G.fit (fun _=>0) (fun i=>((pickOrder (w.params.setOrder q ep) es).toList.getD i (0,.none)).2) (fun i hi=>by
      have z:=HS (prog:=prog) (q:=q) (ep:=ep) hB G.fit i
      have e:((pickOrder (w.params.setOrder q ep) es)[i]?).map (fun e=>(e.2,0))=some (((pickOrder (w.params.setOrder q ep) es).toList.getD i (0,Value.none)).2,0):=by
        have hi2:i < (pickOrder (w.params.setOrder q ep) es).size:=by omega
        simp [List.getD,hi2]
      rw [e] at z
      exact z) (by
      have z:=HS (prog:=prog) (q:=q) (ep:=ep) hB G.fit es.size
      rw [Array.getElem?_eq_none (by omega)] at z
      exact z)
    rw [hsz] at W
    refine h s.heap.objs.size _ s.drawn _ _ _ (fun b o e=>Heap.get?_push_of_some _ e) (Nat.le_refl _) (fun b hb => ?_) W ⟨?_,Heap.get?_push_of_some _ hq⟩ fun acc ha=>pf G pp (fun j v e _=>e) ha
    · rcases List.mem_cons.mp hb with rfl|hb
      · exact .inr (Nat.le_refl _)
      · exact .inl (List.mem_singleton.mp hb)
    · rw [← hsz];exact Heap.get?_push_size _ rfl
  | false =>
    have gt:GT true t:=by have:=G.gt;rw [show fB w=true from by unfold fB;rw [hB];rfl] at this;exact this
    cases hD:(!t.plain && decide (es.size > 1)) with
    | true =>
      refine wpAny_ite_split (fun _ => ?_) fun z=>absurd (show (!false && (!t.plain && decide (es.size > 1)))=true from by rw [hD];rfl) z
      refine wpAny_bind (sE es.size (List.range es.size) (by simp) fun ps dr pp => ?_)
      have hpl:ps.length=es.size:=by rw [pp.length_eq,List.length_range]
      simp only [newTuple]
      refine wpAny_bind (wpAny_newObj_type ?_ (show (List.map (fun (i:Nat)=>rawInt i) ps).toArray.size≤sizeLine by rw [List.size_toArray,List.length_map,hpl];exact fits_of_scanBound (by omega)))
      refine wpAny_bind ?_
      unfold setEpoch
      have hq2:∀ o:Obj,(s.heap.push o).get? q=some (jf es ep t):=fun o=>Heap.get?_push_of_some _ hq
      refine wpAny_bind (wpAny_setState_of (hq2 _) rfl G.fit (wpAny_pure ?_))
      refine wpAny_bind (wpAny_newObj_type ?_ (by size_fits))
      refine wpAny_pure ⟨_,rfl, "set_iterator",_,⟨_,Heap.get?_push_size _ rfl,rfl⟩,cu.lookup,?_⟩
      have hne2:∀ o:Obj,q≠(s.heap.push o).objs.size:=fun o=>by rw [Heap.size_push];exact Nat.ne_of_lt (Nat.lt_succ_of_lt hlt)
      have hnT:∀ o:Obj,s.heap.objs.size≠(s.heap.push o).objs.size:=fun o=>by rw [Heap.size_push];exact Nat.ne_of_lt (Nat.lt_succ_self _)
      have W:=fun (A':Around) (hA:A'.handled=none)=>Ku (prog:=prog) (w:=w) (A:=A') (ep:=ep) (t:=t) hA (hne2 { cls:=.type "tuple",data:=.seq (ps.map fun (k:Nat)=>rawInt k).toArray }) (hnT { cls:=.type "tuple",data:=.seq (ps.map fun (k:Nat)=>rawInt k).toArray }) G.fit hpl fun i p e=>by
        have:=(pp.mem_iff (a:=p)).mp (List.mem_of_getElem? e)
        simpa using this
      rw [hsz] at W
      refine h _ _ dr _ _ _ (fun b o e=>Heap.get?_push_of_some _ (Heap.get?_push_of_some _ e)) (by rw [Heap.size_push];exact Nat.le_succ _) (fun b hb => ?_) W ⟨?_,Heap.get?_push_of_some _ (hq2 _),Heap.get?_push_of_some _ (Heap.get?_push_size _ rfl)⟩ fun acc ha=>pf G (l:=ps.map fun p=>es.getD p (0,.none)) ?_ (fun j v e hj => ?_) ha
      · rcases List.mem_cons.mp hb with rfl|hb
        · exact .inr (by rw [Heap.size_push];exact Nat.le_succ _)
        · rcases List.mem_cons.mp hb with rfl|hb
          · exact .inl rfl
          · rw [List.mem_singleton.mp hb];exact .inr (Nat.le_refl _)
      · rw [← hsz];exact Heap.get?_push_size _ rfl
      · have:=pp.map fun p=>es.getD p (0,Value.none)
        rw [El] at this
        exact this
      · obtain⟨p,y,e1,e2⟩:=e
        have hz:p < es.size:=by
          have:=(pp.mem_iff (a:=p)).mp (List.mem_of_getElem? e1)
          simpa using this
        rw [Array.getElem?_eq_getElem hz] at e2
        have e3:(ps.map fun p=>es.getD p (0,Value.none)).getD j (0,Value.none)=es[p]:=by simp [List.getD,e1,Array.getD,hz]
        rw [e3,Option.some.inj e2]
    | false =>
      refine wpAny_ite_split (fun z=>absurd (show (!false && (!t.plain && decide (es.size > 1)))=true from z) (by rw [hD];simp)) fun _ => ?_
      refine wpAny_bind (wpAny_pure (wpAny_bind ?_))
      unfold setEpoch
      refine wpAny_bind (wpAny_setState_of hq rfl G.fit (wpAny_pure ?_))
      refine wpAny_bind (wpAny_newObj_type ?_ (by size_fits))
      refine wpAny_pure ⟨_,rfl, "set_iterator",_,⟨_,Heap.get?_push_size _ rfl,rfl⟩,cu.lookup,?_⟩
      have W:=fun (A':Around) (hA:A'.handled=none)=>HR (prog:=prog) (w:=w) (A:=A') (ep:=ep) (t:=t) hA hne G.fit (ni t) (fun i=>(es.toList.getD i (0,.none)).2) (fun i hi=>by
        have z:=HU (prog:=prog) (q:=q) (ep:=ep) hB G.fit gt hD (ni t i) i
        have hip:i < t.place.size:=by omega
        have e:SetTable.below t.place (ni t i)=i:=by
          cases i with
          | zero=>exact o7 gt.up
          | succ j =>
            have hj:j < t.place.size:=by omega
            have:=o6 gt.up hj
            simpa [ni,Array.getD,hj] using this
        rw [e,Array.getElem?_eq_getElem hi,Array.getElem?_eq_getElem hip] at z
        have e2:(es.toList.getD i (0,Value.none)).2=es[i].2:=by simp [List.getD,hi]
        have e3:t.place.getD i 0=t.place[i]:=by simp [Array.getD,hip]
        rw [e2,show ni t (i + 1)=t.place[i] + 1 from by rw [← e3];rfl]
        exact z) (by
        have z:=HU (prog:=prog) (q:=q) (ep:=ep) hB G.fit gt hD (ni t es.size) es.size
        have e:SetTable.below t.place (ni t es.size)=es.size:=by
          cases c:es.size with
          | zero=>exact o7 gt.up
          | succ j =>
            have hj:j < t.place.size:=by omega
            have:=o6 gt.up hj
            simpa [ni,Array.getD,hj] using this
        rw [e,Array.getElem?_eq_none (Nat.le_refl _)] at z
        exact z)
      rw [hsz] at W
      refine h s.heap.objs.size _ s.drawn _ _ _ (fun b o e=>Heap.get?_push_of_some _ e) (Nat.le_refl _) (fun b hb => ?_) W ⟨?_,Heap.get?_push_of_some _ hq⟩ fun acc ha=>pf G (List.Perm.refl _) (fun j v e _=>e) ha
      · rcases List.mem_cons.mp hb with rfl|hb
        · exact .inr (Nat.le_refl _)
        · exact .inl (List.mem_singleton.mp hb)
      · rw [← hsz];exact Heap.get?_push_size _ rfl
end
end Fm
set_option Elab.async false
set_option linter.all false
set_option maxRecDepth 100000
namespace Fm
open PySem PySem.Spec L2 PySem.W PyProof.Rows
section
variable {prog:Program} {w:World} {A:Around} {E:Value→Shared→Prop} {s:Shared}
end
theorem wR:∀ {us:List Value} {ns:List Int},IntsAre us ns→aS (ns.map V.int) us
  | _,_,.nil=>.nil
  | _,_,.cons n t r=>.cons ⟨t,rfl⟩ (wR r)
section
variable {X:Cx} {pos p:Pos}
theorem Kv {K:PySem.W.Frag}{ρ:List Addr}{H:Hp}:∀ l:List Int,RDs K ρ H (l.map D.int) (l.map V.int)
  | []=>RDs.nil
  | x :: l=>RDs.cons (by simp only [RD]) (Kv l)
end
end Fm
set_option Elab.async false
set_option linter.all false
set_option maxRecDepth 100000
namespace Fm
open PySem PySem.Spec L2 PySem.W PyProof.Rows
section
variable {prog:Program} {w:World} {A:Around} {E:Value→Shared→Prop} {s:Shared} {q:Addr} {ns:List Int}
theorem Ep {Q:Bool→Shared→Prop} (hT:s.TypeIs (.ref q) "set") (h:Q false s):wpAny (model prog w) A (Builtin.List.listLengthHint (.ref q)) Q E s:=by
  unfold Builtin.List.listLengthHint
  refine wpAny_bind (wpAny_specialOf hT PySem.F.slot_set_len.lookup ?_)
  generalize hid:("set.__len__" : String)=id0
  wp_delta
  rw [show splitId id0=some ("set", "__len__") from by subst hid;decide +kernel]
  subst hid
  refine wpAny_bind (wpAny_isInstance (T := "set") (b:=true) hT (by rw [isSubtype_type];kernel_rfl) ?_)
  refine wpAny_ite_split (fun z=>absurd z (by decide)) fun _ => ?_
  refine wpAny_ite_split (fun _ => ?_) fun z=>absurd (by decide +kernel) z
  exact wpAny_bind (wpAny_typeOf hT (wpAny_pure h))
theorem yY {R:Result→Shared→Prop} (hh:A.handled=none) (hq:cR prog w (fB w) q ns s.heap) (hb:ns.length < scanBound) (S:Addr) (hne:S≠q) (res:Value) (c:Nat) (hS:s.heap.get? S=some { cls:=.type "list",data:=.seq #[] c })
    (hR:∀ s' (acc:Array Value) c' ms,(∀ b o,b≠S→s.heap.get? b=some o→s'.heap.get? b=some o)→s'.os=s.os→s'.gens=s.gens→s'.heap.get? S=some { cls:=.type "list",dict:=none,data:=.seq acc c',slots := #[] } → IntsAre acc.toList ms→ms.Perm ns→R (.ok (.ret res)) s') :
    wpAny (model prog w) A.in1 (Builtin.List.listExtendWith (.ref S) (.ref q) res) (fun fin s'=>match fin with | .done f=>R (.ok f) s' | .again c'=>c'.quiet=true∧codeAny (model prog w) A c' R s') (fun e s'=>R (.error e) s') s:=by
  have hT:s.TypeIs (.ref q) "set" := by obtain⟨es,ep,t,e,_⟩:=hq;exact⟨_,e,rfl⟩
  have hlt:S < s.heap.objs.size:=Heap.lt_size hS
  unfold Builtin.List.listExtendWith
  refine wpAny_bind (wpAny_typeOf hT ?_)
  have h1:Builtin.List.listSameRef (.ref S) (.ref q)=false:=by simp [Builtin.List.listSameRef,hne]
  have h2:(Value.type "set" == Value.type "list")=false:=by decide
  have h3:(Value.type "set" == Value.type "tuple")=false:=by decide
  simp only [h1,h2,h3,Bool.or_false,Bool.false_eq_true,if_false]
  refine wpAny_bind (Eo hq hb fun I h' dr fp P St k hI hf W st fin => ?_)
  have hSf:S∉fp:=fun z=>(hf S z).elim hne fun z=>absurd z (Nat.not_le.mpr hlt)
  have key:∀ (h:Heap) (c₁ : Nat),St 0 h→(∀ b o,b≠S→s.heap.get? b=some o→h.get? b=some o)→h.get? S=some { cls:=.type "list",data:=.seq #[] c₁ } →
      codeAny (model prog w) A (.builtin "list.extend.loop" ⟨[.ref S,.ref I,res],[]⟩) R { s with heap:=h,drawn:=dr }:=by
    intro h c₁ hst hk hS₁
    refine codeAny_extend_loopS (W A.in1 hh).toS (fits_of_scanBound hb) S hSf res ns.length 0 _ #[] c₁ rfl (Nat.zero_le _) hst hS₁ (ItemsOf.nil _) fun s' acc' c' hm hS' hacc => ?_
    obtain⟨ms,i1,i2⟩:=fin acc' hacc
    refine hR s' acc' c' ms (fun b o nb e=>hm.heap b o (fun hmem => ?_) (hk b o nb e)) hm.os hm.gens hS' i1 i2
    rcases List.mem_cons.mp hmem with e'|hmem
    · exact nb e'
    · rw [List.mem_singleton.mp hmem] at e
      exact absurd (Heap.lt_size e) (Nat.not_lt.mpr hI)
  have hS₁ := k _ _ hS
  refine wpAny_bind (wpAny_holding (Ep (s:={ s with heap:=h',drawn:=dr }) (q:=q) (by obtain⟨es,ep,t,e,_⟩:=hq;exact⟨_,k _ _ e,rfl⟩) ?_))
  refine wpAny_ite_split (fun _ => ?_) (fun _=>wpAny_pure ⟨plainId_quiet PySem.F.plain_extend_loop _,key _ c st (fun b o _ e=>k b o e) hS₁⟩)
  refine wpAny_bind (wpAny_rule (wpAny_bind ?_))
  show wpAny _ _ (updateSeq S (·.push .none) >>= fun _=>updateSeq S (·.pop)) _ _ _
  refine wpAny_bind (wpAny_updateSeq hS₁ rfl ?_)
  have hS₂ := Heap.get?_update_self (Obj.mapSeq (·.push Value.none)) hS₁ rfl
  refine wpAny_updateSeq (hz:=by seq_fits) hS₂ rfl ?_
  have hS₃ := Heap.get?_update_self (Obj.mapSeq (·.pop)) hS₂ rfl
  have oth:∀ b o,b≠S→h'.get? b=some o→((h'.update S (Obj.mapSeq (·.push Value.none))).update S (Obj.mapSeq (·.pop))).get? b=some o:=fun b o nb e=>(Heap.get?_update_other _ _ (Ne.symm nb)).trans ((Heap.get?_update_other _ _ (Ne.symm nb)).trans e)
  exact wpAny_pure ⟨plainId_quiet PySem.F.plain_extend_loop _,key _ _ ((W A.in1 hh).frame 0 _ _ st fun b hb o e=>oth b o (fun z=>hSf (z ▸ hb)) e) (fun b o nb e=>oth b o nb (k b o e)) hS₃⟩
theorem wS {R:List Value→Shared→Prop}(hh:A.handled=none)(hq:cR prog w (fB w) q ns s.heap)(hb:ns.length < scanBound)
    (h:∀ s' (vs:List Value) ms,(∀ b o,s.heap.get? b=some o→s'.heap.get? b=some o)→s'.os=s.os→s'.gens=s.gens→IntsAre vs ms→ms.Perm ns→R vs s'):wpAny (model prog w) A (collect (.ref q)) R E s:=by
  have hlt:q < s.heap.objs.size:=by obtain⟨es,ep,t,e,_⟩:=hq;exact Heap.lt_size e
  unfold collect
  refine wpAny_bind (wpAny_runValue (codeAny_builtin PySem.F.entry_proto_collect ?_))
  rw [Around.under_plainId PySem.F.plain_proto_collect _]
  show wpAny _ A.in1 (newList [] >>= fun l=>again (.builtin "list.__iadd__" ⟨[l,.ref q],[]⟩)) _ _ s
  refine wpAny_bind (wpAny_newObj_type ?_)
  refine wpAny_pure ⟨plainId_quiet PySem.F.plain_list_iadd _,codeAny_builtin PySem.F.entry_list_iadd ?_⟩
  rw [Around.under_plainId PySem.F.plain_list_iadd _]
  have hS:(s.heap.push { cls:=.type "list",data:=.seq ([] : List Value).toArray }).get? s.heap.objs.size=some { cls:=.type "list",data:=.seq #[] 0 }:=Heap.get?_push_size _ rfl
  show wpAny _ A.in1 (Builtin.List.listExtendWith (.ref s.heap.objs.size) (.ref q) (.ref s.heap.objs.size)) _ _ _
  have key:=yY (A:=A) (s:={ s with heap:=s.heap.push { cls:=.type "list",data:=.seq ([] : List Value).toArray } })
    (R:=fun (r:Result) (s':Shared)=>∃ (acc:Array Value) (c':Nat) (ms:List Int),r=.ok (.ret (.ref s.heap.objs.size))∧(∀ b o,s.heap.get? b=some o→s'.heap.get? b=some o)∧s'.os=s.os∧s'.gens=s.gens∧s'.heap.get? s.heap.objs.size=some { cls:=.type "list",dict:=none,data:=.seq acc c',slots := #[] } ∧ IntsAre acc.toList ms∧ms.Perm ns)
    hh (hq.kept fun o e=>Heap.get?_push_of_some _ e) hb s.heap.objs.size (Nat.ne_of_gt hlt) (.ref s.heap.objs.size) 0 hS
    (fun s' acc c' ms k e1 e2 hS' i1 i2=>⟨acc,c',ms,rfl,fun b o e=>k b o (Nat.ne_of_lt (Heap.lt_size e)) (Heap.get?_push_of_some _ e),e1,e2,hS',i1,i2⟩)
  refine wpAny_mono key (fun fin s' x => ?_) fun e s' x => ?_
  · cases fin with
    | done f =>
      obtain⟨acc,c',ms,e,k,e1,e2,hS',i1,i2⟩:=x
      cases e
      show wpAny _ A (load s.heap.objs.size >>= _) _ _ _
      exact wpAny_bind (wpAny_load hS' (wpAny_pure (h s' _ ms k e1 e2 i1 i2)))
    | again c₁ =>
      refine⟨x.1,codeAny_mono x.2 fun r s₂ y => ?_⟩
      obtain⟨acc,c',ms,rfl,k,e1,e2,hS',i1,i2⟩:=y
      show wpAny _ A (load s.heap.objs.size >>= _) _ _ _
      exact wpAny_bind (wpAny_load hS' (wpAny_pure (h s₂ _ ms k e1 e2 i1 i2)))
  · obtain⟨_,_,_,e',_⟩:=x
    cases e'
theorem Er {Q:Value→Shared→Prop}(hh:A.handled=none)(hq:cR prog w (fB w) q ns s.heap)(h64:ns.length < 64)
    (h:∀ (s1:Shared) (h':Heap) (e:Nat) (vs':List Value) (ns':List Int),(∀ b u,s.heap.get? b=some u→s1.heap.get? b=some u)→s1.os=s.os→s1.gens=s.gens→(∀ b u,s1.heap.get? b=some u→h'.get? b=some u)→h'.get? s1.heap.objs.size=some (seqObj "list" vs'.toArray e)→IntsAre vs' ns'→ns'.Perm ns→ns'.Pairwise (· ≤ ·)→Q (.ref s1.heap.objs.size) { s1 with heap:=h' }) :
    wpAny (model prog w) A (call (.builtin "sorted") [.ref q]) Q E s:=by
  refine Calls.call_function_entry kind_sorted plain_sorted entry_sorted (args_sorted1 _) ?_
  unfold Builtin.«sorted»
  refine wpAny_bind (m:=checkCount "sorted" 1 1 _) (wpAny_pure ?_)
  refine wpAny_bind (wS (A:=A.in1) hh hq (Nat.lt_trans h64 (by decide)) fun s1 vs ms k1 o1 g1 hi pm => ?_)
  have lv:vs.length=ns.length:=by rw [IntsAre.length hi,pm.length_eq]
  refine wpAny_bind (wpAny_newList ?_ (by rw [sizeLine_eq];omega))
  have hoL:(s1.heap.push (seqObj "list" vs.toArray 0)).get? s1.heap.objs.size=some (seqObj "list" vs.toArray 0):=Heap.get?_push_size _ rfl
  have keep:∀ b u,s1.heap.get? b=some u→(s1.heap.push (seqObj "list" vs.toArray 0)).get? b=some u:=fun b u z=>Heap.get?_push_of_some _ z
  show wpAny _ _ (holding [Value.ref s1.heap.objs.size] _ >>= fun _=>_) _ _ { s1 with heap:=s1.heap.push (seqObj "list" vs.toArray 0) }
  generalize hG:s1.heap.push (seqObj "list" vs.toArray 0)=G at hoL keep
  have hGs:G.objs.size=s1.heap.objs.size + 1:=by rw [← hG,size_push']
  refine wpAny_bind (wpAny_holding (wpAny_call_entry slot_list_sort (s:={ s1 with heap:=G }) ⟨_,hoL,rfl⟩ entry_list_sort (list_sort_tree hoL hi (by omega) fun out ns' i' p' r'=>⟨_,rfl,?_⟩) (args_list_sort _)))
  refine wpAny_pure ⟨_,rfl,?_⟩
  have hlt1:s1.heap.objs.size < G.objs.size:=by omega
  obtain⟨e1,ho1⟩ : ∃ e1,(G.update s1.heap.objs.size (Obj.mapSeq fun _ => #[])).get? s1.heap.objs.size=some (seqObj "list" #[] e1):=⟨_,get?_update_seq hoL (fun _ => #[])⟩
  have ho6:(((G.update s1.heap.objs.size (Obj.mapSeq fun _ => #[])).push (seqObj "tuple" vs.toArray 0)).push (seqObj "list" #[] 0)).get? s1.heap.objs.size=some (seqObj "list" #[] e1):=by
    rw [Heap.get?_push_ne _ _ _ (by rw [size_push',Heap.size_update];exact Nat.ne_of_lt (Nat.lt_succ_of_lt hlt1)),Heap.get?_push_ne _ _ _ (by rw [Heap.size_update];exact Nat.ne_of_lt hlt1)]
    exact ho1
  have fin:=get?_update_seq ho6 (fun _=>out)
  refine h s1 (sortedHeap G s1.heap.objs.size vs out) _ out.toList ns' k1 o1 g1 (fun b u z => ?_) (by unfold sortedHeap;simpa using fin) i' (p'.trans pm) r'
  have hlt:b < s1.heap.objs.size:=Heap.lt_size z
  have n1:b≠s1.heap.objs.size:=Nat.ne_of_lt hlt
  have n2:b < G.objs.size:=Nat.lt_trans hlt hlt1
  unfold sortedHeap
  rw [Heap.get?_update_ne _ _ _ _ n1,Heap.get?_push_ne _ _ _ (by rw [size_push',Heap.size_update];exact Nat.ne_of_lt (Nat.lt_succ_of_lt n2)),Heap.get?_push_ne _ _ _ (by rw [Heap.size_update];exact Nat.ne_of_lt n2),Heap.get?_update_ne _ _ _ _ n1]
  exact keep b u z
end
section
variable {X:Cx} {pos p pos2 p2:Pos}
def Le (X:Cx):List V→Hp→VK→Prop:=fun xs H Q=>∃ (a:Addr) (ns:List Int),xs=[.ref a]∧SqL X.K H a (ns.map V.int)∧ns.length < 64 ∧ ∀ q,H q=none→Q (.ref q) (upd H q (.ext (cR X.prog X.w (fB X.w) q (dh ns))))
theorem Co (hc:X.calm=true):fA X (.type "set") (Le X):=by
  intro pins s σ H xs us Q I r h
  obtain⟨a,ns,rfl,sq,h64,q⟩:=h
  obtain⟨u,rfl,ru⟩:=aS.one r
  cases (show u=Value.ref a from ru)
  obtain⟨its,rvs,pl,hz⟩:=I.list sq
  refine wO (I.ok.hd hc) pl.isList (by simpa using L2.kf rvs) (Nat.lt_trans (show ns.length + 1 < 65 by omega) (by decide)) fun h' tk st k => ?_
  exact⟨.ref s.heap.objs.size,_,I.laid (t':=tk) (o:=.ext (cR X.prog X.w (fB X.w) s.heap.objs.size (dh ns))) k (Nat.le_refl _) ⟨st,by obtain⟨es,ep,t,e,_⟩:=st;exact⟨_,e⟩,fun h1 h2 f k=>f.kept k⟩,rfl,q _ (I.hok.fresh (Nat.le_refl _))⟩
def Jk (X:Cx):List V→Hp→VK→Prop:=fun xs H Q=>∃ (a:Addr) (ns:List Int),xs=[.ref a]∧H a=some (.ext (cR X.prog X.w (fB X.w) a ns))∧ns.length < 64 ∧ ∀ q,H q=none→Q (.ref q) (upd H q (.lst ((jd ns).map V.int)))
theorem yZ (hc:X.calm=true):fA X (.builtin "sorted") (Jk X):=by
  intro pins s σ H xs us Q I r h
  obtain⟨a,ns,rfl,ha,h64,q⟩:=h
  obtain⟨u,rfl,ru⟩:=aS.one r
  cases (show u=Value.ref a from ru)
  have st:cR X.prog X.w (fB X.w) a ns s.heap:=(I.hok a _ ha).1
  refine Er (I.ok.hd hc) st h64 fun s1 h' e vs' ns' k1 o1 g1 k2 hq i' p' r' => ?_
  have e0:=Cb p' r'
  subst e0
  have I0:Inv X pins σ H { s with heap:=s1.heap,toks:=s1.toks }:=I.kept (t':=s1.toks) k1
  have I1:Inv X pins σ H s1:=⟨I0.ok,o1.trans I0.os,by rw [g1];exact I0.bare,I0.base,I0.loc,I0.cell,I0.free,I0.freeC,I0.pin,I0.hok,I0.len⟩
  have lz:(jd ns).length=ns.length:=(iu ns).length_eq
  exact⟨.ref s1.heap.objs.size,_,I1.laid (t':=s1.toks) (o:=.lst ((jd ns).map V.int)) k2 (Nat.le_refl _) ⟨by rw [List.length_map,sizeLine_eq];omega,vs',e,wR i',hq⟩,rfl,q _ (I1.hok.fresh (Nat.le_refl _))⟩
theorem Es {a:Expr} {la:LF} (hc:X.calm=true) (hg:Gl X "sorted") (hm:X.mg "sorted" = none) (hg2:Gl X "set") (hm2:X.mg "set" = none) (ha:MF X a la)
    (hs:starEach [.Call (.Name "set" p2) [a] [] pos2] X.env=(false,eval (.Call (.Name "set" p2) [a] [] pos2) X.env) :: starEach [] X.env:=by rfl)
    (hs2:starEach [a] X.env=(false,eval a X.env) :: starEach [] X.env:=by rfl) :
    MF X (.Call (.Name "sorted" p) [.Call (.Name "set" p2) [a] [] pos2] [] pos) (pb la):=by
  refine PE.imp (gM (yZ hc) hg hm (by decide +kernel) (bX (lF (Co hc) hg2 hm2 (by decide +kernel) (bX ha df hs2) (he:=hs2)) df hs) (he:=hs)) fun σ H Q ⟨ρ,σd,hd,rs,pp⟩=>⟨ρ,σd,hd,rs,?_⟩
  unfold pb at pp
  cases e:la σd hd with
  | exc x h'=>rw [e] at pp;exact pp
  | bad=>rw [e] at pp;exact pp
  | ok l hd1 =>
    rw [e] at pp
    simp only [aI] at pp
    intro q vs H1 ρ1 e1 rs1 _ hq _ rvs
    cases c:eA l with
    | none=>rw [c] at pp;exact pp.elim
    | some ns =>
      rw [c] at pp
      simp only at pp
      split at pp
      · rename_i hz
        have hvs:=kK rvs c
        subst hvs
        refine⟨q,ns,rfl,.inl (.inl hq),hz,fun q1 hq1 => ?_⟩
        have sm:=cm (o:=HO.ext (cR X.prog X.w (fB X.w) q1 (dh ns))) hq1
        exact⟨q1,dh ns,rfl,bi,Nat.lt_of_le_of_lt (sC ns) hz,fun q2 hq2=>pp.mk (e1.trans (Ext.same sm)) (rs1.same sm) (Kv _) q2 hq2⟩
      · exact pp.elim
end
end Fm
namespace Fm
theorem dP {h h':Hd}{d:D}(e:h'.length≤h.length):letGo h (.ok d h')=.ok d h':=by
  simp only [letGo];split
  · rw [List.take_of_length_le e]
  · rfl
@[simp] theorem bg {h:Hd} {d:D}:letGo h (.ok d h)=.ok d h:=dP (Nat.le_refl _)
@[simp] theorem JO {h:Hd} {d:D} {n:Nat} {c:ec}:letGo h (.ok d (h.set n c))=.ok d (h.set n c):=dP (by simp)
theorem sF {h h':Hd}{d:D}(e:pure? d=false):letGo h (.ok d h')=.ok d h':=by
  simp [letGo,e]
@[simp] theorem ph {h h':Hd} {n:Nat}:letGo h (.ok (.ref n) h')=.ok (.ref n) h':=sF rfl
theorem pi {h g:Hd}{d:D}(e:pure? d=true):letGo h (.ok d (h++g))=.ok d h:=by
  have:DJ h (h++g):=fun n c hn hc=>.inl (by rwa [List.getElem?_append_left hn] at hc)
  simp [letGo,e,this]
structure Web where
  ties:List (List (Nat × Int))
  bars:List Int
  stays:List (Option Int)
def bz:Option Int→D
  | none=>.non
  | some i=>.int i
def cK (p:Nat × Int):D:=.tup [.int p.1,.int p.2]
def lU (r:List (Nat × Int)):D:=.tup (r.map cK)
def au (l:List Int):D:=.tup (l.map .int)
def Web.enc (w:Web):D:=.tup [.tup (w.ties.map lU),.tup (w.bars.map .int),.tup (w.stays.map bz)]
structure Web.Ok (w:Web) (n:Nat):Prop where
  t:w.ties.length=n
  b:w.bars.length=n
  s:w.stays.length=n
  lt:∀ r∈w.ties,∀ p∈r,p.1 < n
  sz:n≤1000
structure cn (w:Web) (n:Nat) (s:List Int):Prop where
  len:s.length=n
  op:∀ x∈s,x=0∨x=1
  st:∀ (i:Nat) (x:Int),w.stays[i]? = some (some x)→s[i]? = some x
theorem cT {l:List D}{i:Nat}{d:D}(e:l[i]? = some d):atI l (i:Int)=some d:=by
  have:=(List.getElem?_eq_some_iff.mp e).1
  simp [atI,ixN,this]
  simpa [List.getElem?_eq_getElem this] using e
@[simp] theorem Lg (x:D) (l:List D):atI (x :: l) 0=some x:=cT (i:=0) rfl
theorem bJ {g:Option Nat}{all:List D}{tg:GF}{cs:List TF}{e:EF}{h:Hd}(I:Sd→Prop)(p:D→Bool)(f:D→D)(hh:dl g all h) :
    ∀ {xs:List D} {σ:Sd},(∀ x∈xs,∀ σ,I σ → ∃ σ',tg x σ = some σ'∧I σ'∧gR cs σ' h=.ok (p x) h∧(p x=true→e σ' h=.ok (f x) h))→I σ →
      bQ g all tg cs e xs σ h=.ok ((xs.filter p).map f) h
  | [],_,_,_=>by simp [bQ,hh]
  | x :: xs,σ,st,i=>by
    obtain⟨σ',h1,h2,h3,h4⟩:=st x (by simp) σ i
    have ih:=bJ I p f hh (xs:=xs) (σ := σ') (fun y hy=>st y (by simp [hy])) h2
    cases hp:p x with
    | true=>simp [bQ,hh,h1,h3,hp,h4 hp,ih]
    | false=>simp [bQ,hh,h1,h3,hp,ih]
theorem sG {g:Option Nat}{all:List D}{tg:GF}{b:SF}{rest:List D}(P:Nat→Sd→Hd→Prop)(hh:∀ i σ h,P i σ h→dl g all h) :
    ∀ {xs:List D} {k:Nat} {σ:Sd} {h:Hd},(∀ (i:Nat) x σ h,xs[i]? = some x→P (k + i) σ h → ∃ σ',tg x σ = some σ' ∧ ∃ σ'' h'',b σ' h=.nx σ'' h''∧P (k + i + 1) σ'' h'')→P k σ h →
      ∃ σ' h',gl g all tg b (xs++rest) σ h=gl g all tg b rest σ' h'∧P (k + xs.length) σ' h'
  | [],k,σ,h,_,p=>⟨σ,h,rfl,by simpa using p⟩
  | x :: xs,k,σ,h,st,p=>by
    obtain⟨σ',h1,σ2,h2,h3,h4⟩:=st 0 x σ h (by simp) (by simpa using p)
    have st':∀ (i:Nat) y σ h,xs[i]? = some y→P (k + 1 + i) σ h → ∃ σ',tg y σ = some σ' ∧ ∃ σ'' h'',b σ' h=.nx σ'' h''∧P (k + 1 + i + 1) σ'' h'':=fun i y σ h e q=>by
      have e1:k + 1 + i=k + (i + 1):=by omega
      rw [e1] at q ⊢
      exact st (i + 1) y σ h (by simpa using e) q
    obtain⟨σ3,h5,h6,h7⟩:=sG P hh st' (by simpa using h4)
    refine⟨σ3,h5,?_,?_⟩
    · rw [← h6,List.cons_append,gl,if_pos (hh _ _ _ p),h1]
      simp only [h3]
    · have e1:k + (x :: xs).length=k + 1 + xs.length:=by simp;omega
      rw [e1];exact h7
theorem cZ {g:Option Nat}{all:List D}{tg:GF}{b:SF}(P:Nat→Sd→Hd→Prop)(hh:∀ i σ h,P i σ h→dl g all h)
    {xs:List D} {k:Nat} {σ:Sd} {h:Hd} (st:∀ (i:Nat) x σ h,xs[i]? = some x→P (k + i) σ h → ∃ σ',tg x σ = some σ' ∧ ∃ σ'' h'',b σ' h=.nx σ'' h''∧P (k + i + 1) σ'' h'') (p:P k σ h) :
      ∃ σ' h',gl g all tg b xs σ h=.nx σ' h'∧P (k + xs.length) σ' h':=by
  obtain⟨σ',h',q,z⟩:=sG (rest:=[]) P hh st p
  rw [List.append_nil] at q
  exact⟨σ',h',q.trans (by unfold gl;exact if_pos (hh _ _ _ z)),z⟩
theorem gc {g:Option Nat}{all:List D}{tg:GF}{e:EF}(P:Nat→Sd→Hd→Prop)(V:Nat→D→Prop)(hh:∀ i σ h,P i σ h→dl g all h) :
    ∀ {xs:List D} {k:Nat} {σ:Sd} {h:Hd},(∀ (i:Nat) x σ h,xs[i]? = some x→P (k + i) σ h → ∃ σ',tg x σ = some σ' ∧ ∃ d h'',e σ' h=.ok d h''∧V (k + i) d∧P (k + i + 1) σ' h'')→P k σ h →
      ∃ ds h',bQ g all tg [] e xs σ h=.ok ds h'∧ds.length=xs.length∧(∀ (i:Nat) d,ds[i]? = some d→V (k + i) d) ∧ ∃ σ',P (k + xs.length) σ' h'
  | [],k,σ,h,_,p=>⟨[],h,by simp [bQ,hh _ _ _ p],rfl,by simp,σ,by simpa using p⟩
  | x :: xs,k,σ,h,st,p=>by
    obtain⟨σ',h1,d,h2,h3,hv,h4⟩:=st 0 x σ h (by simp) (by simpa using p)
    have st':∀ (i:Nat) y σ h,xs[i]? = some y→P (k + 1 + i) σ h → ∃ σ',tg y σ = some σ' ∧ ∃ d h'',e σ' h=.ok d h''∧V (k + 1 + i) d∧P (k + 1 + i + 1) σ' h'':=fun i y σ h e q=>by
      have e1:k + 1 + i=k + (i + 1):=by omega
      rw [e1] at q ⊢
      exact st (i + 1) y σ h (by simpa using e) q
    obtain⟨ds,h5,h6,hl,hvs,σ3,h7⟩:=gc P V hh st' (by simpa using h4)
    refine⟨d :: ds,h5,?_,by simp [hl],fun i d' hd => ?_,σ3,?_⟩
    · simp [bQ,hh _ _ _ p,h1,gR,h3,h6]
    · cases i with
      | zero=>simp at hd;subst hd;simpa using hv
      | succ i =>
        have:=hvs i d' (by simpa using hd)
        rwa [show k + 1 + i=k + (i + 1) by omega] at this
    · have e1:k + (x :: xs).length=k + 1 + xs.length:=by simp;omega
      rw [e1];exact h7
theorem iy {α : Type}{n:Nat}{ds:List α}{f:Nat → α}(hl:ds.length=n)(h:∀ (i:Nat) d,ds[i]? = some d→d=f i):ds=(List.range n).map f:=by
  apply List.ext_getElem?
  intro i
  by_cases hi:i < n
  · have:ds[i]? = some (ds[i]'(by omega)):=by simp [hl,hi]
    rw [this,h i _ this]
    simp [hi]
  · simp [hi,hl]
theorem gq {t:TF}{b:SF}:∀ {n:Nat} {σ:Sd} {h:Hd} {r:Out},dA t b n σ h=r→r ≠ .bad → ∀ {m:Nat},n≤m→dA t b m σ h=r
  | 0,σ,h,r,e,hr,m,_=>by simp only [dA] at e;exact absurd e.symm hr
  | n + 1,σ,h,r,e,hr,m,hm=>by
    cases m with
    | zero=>omega
    | succ m =>
      simp only [dA] at e ⊢
      cases c:t σ h with
      | bad=>rw [c] at e;exact e
      | exc x h1=>rw [c] at e;exact e
      | ok cb h1 =>
        rw [c] at e
        cases cb with
        | false=>exact e
        | true =>
          simp only at e ⊢
          cases c2:b σ h1 with
          | nx σ2 h2=>rw [c2] at e;exact gq e hr (by omega)
          | ct σ2 h2=>rw [c2] at e;exact gq e hr (by omega)
          | bk σ2 h2=>rw [c2] at e;exact e
          | rt d h2=>rw [c2] at e;exact e
          | exc x σ2 h2=>rw [c2] at e;exact e
          | bad=>rw [c2] at e;exact e
theorem Cp {t:TF}{b:SF}{n:Nat}{σ:Sd}{h:Hd}{r:Out}(e:dA t b n σ h=r)(hr:r ≠ .bad):oK t b σ h=r:=by
  have ex:∃ n,dA t b n σ h ≠ .bad:=⟨n,by rw [e];exact hr⟩
  have hf:jS t b σ h=Classical.choose ex:=by simp [jS,ex]
  have h2:=Classical.choose_spec ex
  unfold oK
  rw [hf]
  by_cases hle:n≤Classical.choose ex
  · exact gq e hr hle
  · have:=gq (n:=Classical.choose ex) rfl h2 (m:=n) (by omega)
    rw [← this,e]
end Fm
set_option linter.all false
namespace Fm
theorem aA {F:Fn}{r:LF}{σ:Sd}{h h1 h':Hd}{ds:List D}{d:D}(a:r σ h=.ok ds h1)(b:F ds h1=.ok d h'):ar F r σ h=.ok d h':=by
  show Res.bind _ _=_;rw [a];exact b
theorem bq {a:EF}{r:LF}{σ:Sd}{h h1 h2:Hd}{d:D}{ds:List D}(p:a σ h=.ok d h1)(q:r σ h1=.ok ds h2):af a r σ h=.ok (d :: ds) h2:=by
  show Res.bind _ _=_;rw [p,aI,q];rfl
theorem ax {g:O2}{a b:EF}{σ:Sd}{h h1 h2 h3:Hd}{x y z:D}(p:a σ h=.ok x h1)(q:b σ h1=.ok y h2)(r:g x y h2=.ok z h3):ak g a b σ h=.ok z h3:=by
  show Res.bind _ _=_;rw [p,aI,q];exact r
theorem lV {r:LF}{σ:Sd}{h h':Hd}{xs:List D}(p:r σ h=.ok xs h')(q:xs.length≤SZ:=by exact of_decide_eq_true rfl):gw r σ h=.ok (.tup xs) h':=by
  show Res.bind _ _=_;rw [p];exact if_pos q
theorem ug {r:LF}{σ:Sd}{h h':Hd}{xs:List D}(p:r σ h=.ok xs h')(q:xs.length≤SZ:=by exact of_decide_eq_true rfl):cj r σ h=.ok (.ref h'.length) (h'++[.lst xs]):=by
  show Res.bind _ _=_;rw [p];exact if_pos q
theorem Et {a:LF}{b:EF}{σ:Sd}{h h1 h2:Hd}{l:List D}{i:Int}{d:D}(p:a σ h=.ok l h1)(q:b σ h1=.ok (.int i) h2)(r:atI l i=some d):fIx a b σ h=.ok d h2:=by
  show Res.bind _ _=_;rw [p,aI,q];simp only [aI,r]
theorem a0 {a b:EF}{σ:Sd}{h h1 h2:Hd}{x:D}{l:List D}{i:Int}{d:D}(p:a σ h=.ok x h1)(q:b σ h1=.ok (.int i) h2)(s:fW h2 x=some l)(r:atI l i=some d):fAt a b σ h=.ok d h2:=by
  show ak _ _ _ _ _=_;exact ax p q (by simp only [oAt,s,r])
theorem ba {h:Hd}{n:Nat}{l:List D}(p:h[n]? = some (.lst l)):fW h (.ref n)=some l:=by simp only [fW,p]
theorem bn {i:Nat}{e:EF}{σ:Sd}{h h':Hd}{d:D}(p:e σ h=.ok d h'):aT (gN i) e σ h=.nx (σ.set i (some d)) h':=by
  show outE _ _ _=_;rw [p];rfl
theorem bA {e:EF}{σ:Sd}{h h':Hd}{d:D}(p:e σ h=.ok d h'):bc e σ h=.rt d h':=by
  show outE _ _ _=_;rw [p];rfl
theorem lW {e:EF}{σ:Sd}{h h':Hd}{d:D}(p:e σ h=.ok d h'):gQ e σ h=.nx σ h':=by
  show outE _ _ _=_;rw [p];rfl
theorem kq {t:TF}{a b:SF}{σ:Sd}{h h1:Hd}(p:t σ h=.ok true h1):sIf t a b σ h=a σ h1:=by
  unfold sIf;rw [p];rfl
theorem d9 {t:TF}{a b:SF}{σ:Sd}{h h1:Hd}(p:t σ h=.ok false h1):sIf t a b σ h=b σ h1:=by
  unfold sIf;rw [p];rfl
theorem bh {a:EF}{σ:Sd}{h h':Hd}{b:Bool}(p:a σ h=.ok (.bl b) h'):tE a σ h=.ok b h':=by
  show asB _=_;rw [p];rfl
theorem jg {t:TF}{σ:Sd}{h h':Hd}{b:Bool}(p:t σ h=.ok b h'):ib t σ h=.ok (!b) h':=by
  show Res.bind _ _=_;rw [p];rfl
theorem kr {t u:TF}{σ:Sd}{h h1 h':Hd}{b:Bool}(p:t σ h=.ok true h1)(q:u σ h1=.ok b h'):iX t u σ h=.ok b h':=by
  show Res.bind _ _=_;rw [p];exact q
theorem Bi {t u:TF}{σ:Sd}{h h1:Hd}(p:t σ h=.ok false h1):iX t u σ h=.ok false h1:=by
  show Res.bind _ _=_;rw [p];rfl
theorem nj {t u:TF}{σ:Sd}{h h1 h':Hd}{b:Bool}(p:t σ h=.ok false h1)(q:u σ h1=.ok b h'):tOr t u σ h=.ok b h':=by
  show Res.bind _ _=_;rw [p];exact q
theorem Jl {t u:TF}{σ:Sd}{h h1:Hd}(p:t σ h=.ok true h1):tOr t u σ h=.ok true h1:=by
  show Res.bind _ _=_;rw [p];rfl
theorem sH {i j:Int}{h:Hd}:oEq (.int i) (.int j) h=.ok (.bl (decide (i=j))) h:=rfl
theorem dc {a:LF}{σ:Sd}{h h1:Hd}{l:List D}(p:a σ h=.ok l h1):cX a σ h=.ok (.int l.length) h1:=by
  show Res.bind _ _=_;rw [p];rfl
theorem cL {a:EF}{σ:Sd}{h h1:Hd}{x:D}{l:List D}(p:a σ h=.ok x h1)(s:fW h1 x=some l):lOf a σ h=.ok l h1:=by
  show Res.bind _ _=_;rw [p];simp only [aI,s]
theorem uh {x e:EF}{σ:Sd}{h h1 h2:Hd}{d:D}{n:Nat}{l l0:List D}(p:x σ h=.ok (.ref n) h1)(q:h1[n]? = some (.lst l0))(r:e σ h1=.ok d h2)(s:h2[n]? = some (.lst l))(t:l.length < SZ):ik x e σ h=.ok .non (h2.set n (.lst (l++[d]))):=by
  simp only [ik,p,aI,q,r,IQ,s,if_pos t]
theorem ui {i j:Int}{h:Hd}(e:i=j):oEq (.int i) (.int j) h=.ok (.bl true) h:=by rw [sH,decide_eq_true e]
theorem pj {i j:Int}{h:Hd}(e : ¬ i=j):oEq (.int i) (.int j) h=.ok (.bl false) h:=by rw [sH,decide_eq_false e]
theorem Jm {i j:Int}{h:Hd}(e:i < j):oLt (.int i) (.int j) h=.ok (.bl true) h:=by show Res.ok (D.bl (decide (i < j))) h=_;rw [decide_eq_true e]
theorem Jn {i j:Int}{h:Hd}(p:(sml i || sml j)=true):fj (.int i) (.int j) h=.ok (.int (i * j)) h:=by
  show (if (sml i || sml j)=true then _ else _)=_
  exact if_pos p
theorem Bj {i j:Int}{h:Hd}(p:sml i=true):fj (.int i) (.int j) h=.ok (.int (i * j)) h:=Jn (by rw [p];rfl)
theorem Bk {t:TF}{σ:Sd}{h h':Hd}{b:Bool}(p:t σ h=.ok b h'):fT t σ h=.ok (.bl b) h':=by
  show Res.bind _ _=_;rw [p];rfl
theorem GH {r:LF}{σ:Sd}{h0 h g:Hd}{xs:List D}{A:Nat}(hA:A=h0.length)(p:r σ h=.ok xs (h0++g))(q:xs.length≤SZ):cj r σ h=.ok (.ref (A + g.length)) (h0++(g++[.lst xs])):=by
  rw [ug p q,hA,List.length_append,List.append_assoc]
theorem GI {h0 g:Hd}{A:Nat}(hA:A=h0.length)(k:Nat)(c:ec):(h0++g).set (A + k) c=h0++g.set k c:=by
  subst hA
  rw [List.set_append_right _ _ (by omega)]
  congr 2;omega
theorem kR {h0 g:Hd}{A:Nat}(hA:A=h0.length)(k:Nat):(h0++g)[A + k]? = g[k]? := by
  subst hA
  rw [List.getElem?_append_right (by omega),Nat.add_sub_cancel_left]
theorem dL {h0:Hd}{j:Nat}{c:ec}(g:Hd)(e:h0[j]? = some c):(h0++g)[j]? = some c:=(List.getElem?_append_left (List.getElem?_eq_some_iff.mp e).1).trans e
theorem eY {a:EF}{σ:Sd}{h h1:Hd}{n:Nat}(p:a σ h=.ok (.int n) h1)(hn:n≤1000):bm a σ h=.ok ((List.range n).map (fun k:Nat=>D.int k),none) h1:=by
  show Res.bind _ _=_
  rw [p]
  exact if_pos ⟨Int.le_trans (by decide) (Int.natCast_nonneg n),Int.le_trans (Int.ofNat_le.mpr hn) (by decide)⟩
theorem lX {it:IF}{tg:GF}{b:SF}{σ:Sd}{h h1:Hd}{l:List D}{g:Option Nat}{o:Out}(p:it σ h=.ok (l,g) h1)(q:gl g l tg b l σ h1=o):iU it tg b σ h=o:=by
  unfold iU;rw [p];exact q
theorem eh {nl:Nat}{caps:List Nat}{it:IF}{tg:GF}{cs:List TF}{e:EF}{σ:Sd}{h h1 h2:Hd}{l ds:List D}{g:Option Nat}(p:it σ h=.ok (l,g) h1)(q:bQ g l tg cs e l (fX nl caps σ) h1=.ok ds h2):bF nl caps it tg cs e σ h=.ok ds h2:=by
  show Res.bind _ _=_;rw [p];exact q
theorem Jo {a:EF}{σ:Sd}{h h1:Hd}{n:Nat}{l:List D}(p:a σ h=.ok (.ref n) h1)(q:h1[n]? = some (.lst l)):kJ .list a σ h=.ok (.bl true) h1:=by
  simp only [kJ,p,aI,BV,q];rfl
theorem Bl {a:EF}{σ:Sd}{h h1:Hd}{n:Nat}{l:List D}(p:a σ h=.ok (.ref n) h1)(q:h1[n]? = some (.lst l)):eW a σ h=.ok (l,some n) h1:=by
  simp only [eW,p,aI,q]
theorem Eu {a:EF}{σ:Sd}{h h1:Hd}{b:Bool}(p:a σ h=.ok (.bl b) h1):wp a σ h=.ok (.int (b2i b)) h1:=by
  simp only [wp,p,aI]
theorem Ev {a:LF}{σ:Sd}{h h1:Hd}{l:List D}{is:List Int}(p:a σ h=.ok l h1)(q:eA l=some is):kI a σ h=.ok (.int is.sum) h1:=by
  simp only [kI,p,aI,q]
theorem oq {a:LF}{σ:Sd}{h h1:Hd}{l:List D}(p:a σ h=.ok l h1):cY a σ h=.ok (.tup l) h1:=by
  show Res.bind _ _=_;rw [p];rfl
theorem y4 {i j:Int}{h:Hd}(e:j < i):oGt (.int i) (.int j) h=.ok (.bl true) h:=by show Res.ok (D.bl (decide (j < i))) h=_;rw [decide_eq_true e]
theorem pq {i j:Int}{h:Hd}(e : ¬ j < i):oGt (.int i) (.int j) h=.ok (.bl false) h:=by show Res.ok (D.bl (decide (j < i))) h=_;rw [decide_eq_false e]
theorem eS {h:Hd}{A:Nat}(hA:A=h.length)(c:ec):(h++[c])[A]? = some c:=by rw [hA];exact List.getElem?_concat_length
theorem GJ {h:Hd}{A:Nat}(hA:A=h.length)(c d:ec):(h++[c]).set A d=h++[d]:=by
  have:=GI (g:=[c]) hA 0 d
  rwa [Nat.add_zero] at this
theorem eT {r:LF}{σ:Sd}{h h':Hd}{xs:List D}{A:Nat}(hA:A=h'.length)(p:r σ h=.ok xs h')(q:xs.length≤SZ):cj r σ h=.ok (.ref A) (h'++[.lst xs]):=by rw [hA];exact ug p q
theorem GK {l:List Int}{i:Nat}(h:i < l.length):atI (l.map D.int) (i:Int)=some (.int (l.getD i 0)):=cT (by rw [List.getElem?_map,List.getElem?_eq_getElem h,List.getD_eq_getElem?_getD,List.getElem?_eq_getElem h];rfl)
theorem uj {t:TF}{a b:EF}{σ:Sd}{h h1:Hd}(p:t σ h=.ok true h1):fIf t a b σ h=a σ h1:=by
  show Res.bind _ _=_;rw [p];rfl
theorem y8 {t:TF}{a b:EF}{σ:Sd}{h h1:Hd}(p:t σ h=.ok false h1):fIf t a b σ h=b σ h1:=by
  show Res.bind _ _=_;rw [p];rfl
theorem aW {a b:SF}{σ σ':Sd}{h h':Hd}(e:a σ h=.nx σ' h'):aE a b σ h=b σ' h':=by simp only [aE,e]
theorem nk {a b:SF}{σ:Sd}{h h':Hd}{d:D}(e:a σ h=.rt d h'):aE a b σ h=.rt d h':=by simp only [aE,e]
theorem cq {np n:Nat}{b:SF}{ds:List D}{σ:Sd}{h h':Hd}{d:D}(hl:ds.length=np)(st:(ds.map some++List.replicate (n - ds.length) none:Sd) = σ)(e:b σ h=.rt d h'):bM np n b ds h=letGo h (.ok d h'):=by
  unfold bM runB;rw [if_pos hl,st,e]
theorem Kw {np n:Nat}{b:SF}{ds:List D}{σ σ':Sd}{h h':Hd}(hl:ds.length=np)(st:(ds.map some++List.replicate (n - ds.length) none:Sd) = σ)(e:b σ h=.nx σ' h'):bM np n b ds h=letGo h (.ok .non h'):=by
  unfold bM runB;rw [if_pos hl,st,e]
theorem lY {t:TF}{σ:Sd}{h:Hd}{b:Bool}(p:t σ h=.ok b h):gR [t] σ h=.ok b h:=by
  simp only [gR,p,aI];cases b<;>rfl
theorem pr {a:EF}{σ:Sd}{h h1:Hd}{l:List D}(p:a σ h=.ok (.tup l) h1):eW a σ h=.ok (l,none) h1:=by
  show Res.bind _ _=_;rw [p];rfl
theorem Ew {a:LF}{σ:Sd}{h h1:Hd}{l:List D}{bs:List Bool}(p:a σ h=.ok l h1)(q:iZ l=some bs):BU a σ h=.ok (.bl (bs.all id)) h1:=by
  simp only [BU,p,aI,q]
theorem y9 (a b:Int)(h:Hd):oNe (.int a) (.int b) h=.ok (.bl (!decide (a=b))) h:=rfl
theorem Jp {a b:EF}{σ:Sd}{h h1 h2:Hd}{i j:Int}(p:a σ h=.ok (.int i) h1)(q:b σ h1=.ok (.int j) h2):yM a b σ h=.ok (.int (if j < i then j else i)) h2:=by
  simp only [yM,p,aI,q]
theorem bU {a b:EF}{σ:Sd}{h h1 h2:Hd}{d e:D}(p:a σ h=.ok d h1)(q:b σ h1=.ok e h2):af a (af b aq) σ h=.ok [d,e] h2:=bq p (bq q rfl)
end Fm
set_option linter.all false
namespace Fm
noncomputable def eG:Fn:=bM 1 1 (bc (fT (iX (tE (kJ .int (aa 0))) (ib (tE (kJ .bool (aa 0)))))))
noncomputable def cC:Fn:=bM 3 3 (bc (fT (iX (tE (ar eG (af (aa 0) aq))) (tE (oJ oLe oLe (aa 1) (aa 0) (aa 2))))))
noncomputable def cU:Fn:=bM 1 1 (bc (ar cC (af (aa 0) (af (fC (.int 0)) (af (fC (.int 1)) aq)))))
noncomputable def cw:Fn:=bM 1 1 (bc (cX (lOf (fAt (aa 0) (fC (.int 0))))))
noncomputable def gW:Fn:=bM 2 2 (bc (fAt (fAt (aa 0) (fC (.int 0))) (aa 1)))
noncomputable def gX:Fn:=bM 2 2 (bc (fAt (fAt (aa 0) (fC (.int 1))) (aa 1)))
noncomputable def cM:Fn:=bM 2 2 (bc (fAt (fAt (aa 0) (fC (.int 2))) (aa 1)))
noncomputable abbrev Bm:SF:=(aE (sIf (ib (tE (ar cU (af (aa 3) aq)))) (bc (fC (.bl false))) b9)
    (aE (aT (gN 4) (ar cM (af (aa 0) (af (aa 2) aq))))
    (sIf (iX (tE (ak kH (aa 4) (fC .non))) (tE (ak oNe (aa 3) (aa 4)))) (bc (fC (.bl false))) b9)))
noncomputable def pv:Fn:=bM 2 5 (aE (sIf (tOr (ib (tE (kJ .tuple (aa 1)))) (tE (ak oNe (cX (lOf (aa 1))) (ar cw (af (aa 0) aq))))) (bc (fC (.bl false))) b9)
    (aE (iU (DI (aa 1)) (gT [2,3]) Bm)
    (bc (fC (.bl true)))))
noncomputable def cg:Fn:=bM 2 2 (sIf (ib (tE (ar pv (af (aa 0) (af (aa 1) aq))))) Gh b9)
noncomputable def fK:Fn:=bM 3 3 (bc (ak fj (fC (.int 2)) (kI (bF 2 [1] (eW (ar gW (af (aa 0) (af (aa 2) aq)))) (gT [0,1]) [(tE (ak oEq (fAt (aa 2) (aa 0)) (fC (.int 1))))] (aa 1)))))
theorem uk (i:Int)(h:Hd):eG [.int i] h=.ok (.bl true) h:=(cq (d:=.bl true) (h':=h) rfl rfl rfl).trans bg
theorem jh (i a b:Int)(h:Hd):cC [.int i,.int a,.int b] h=.ok (.bl (decide (a≤i) && decide (i≤b))) h:=by
  have ch:oJ oLe oLe (aa 1) (aa 0) (aa 2) [some (.int i),some (.int a),some (.int b)] h=.ok (.bl (decide (a≤i) && decide (i≤b))) h:=by
    show (match D.bl (decide (a≤i)) with | .bl true=>Res.ok (D.bl (decide (i≤b))) h | .bl false=>.ok (.bl false) h|_=>.bad)=_
    cases decide (a≤i)<;>rfl
  have t:iX (tE (ar eG (af (aa 0) aq))) (tE (oJ oLe oLe (aa 1) (aa 0) (aa 2))) [some (.int i),some (.int a),some (.int b)] h=.ok (decide (a≤i) && decide (i≤b)) h:=kr (bh (aA (bq rfl rfl) (uk i h))) (bh ch)
  exact (cq rfl rfl (bA (Bk t))).trans bg
theorem pw (i:Int)(h:Hd):cU [.int i] h=.ok (.bl (decide (0≤i) && decide (i≤1))) h:=by
  exact (cq rfl rfl (bA (aA (bq rfl (bU rfl rfl)) (jh i 0 1 h)))).trans bg
theorem ji (w:Web)(h:Hd):cw [w.enc] h=.ok (.int w.ties.length) h:=by
  have:=(cq (np:=1) (n:=1) (b:=bc (cX (lOf (fAt (aa 0) (fC (.int 0)))))) (ds:=[w.enc]) (h:=h) rfl rfl (bA (dc (cL (a0 rfl rfl rfl rfl) rfl)))).trans bg
  rwa [List.length_map] at this
theorem wT (w:Web)(h:Hd){p:Nat}{r:List (Nat × Int)}(e:w.ties[p]? = some r):gW [w.enc,.int p] h=.ok (lU r) h:=by
  have q:atI (w.ties.map lU) (p:Int)=some (lU r):=cT (by simp [e])
  exact (cq rfl rfl (bA (a0 (a0 rfl rfl rfl rfl) rfl rfl q))).trans bg
theorem za (w:Web)(h:Hd){p:Nat}{r:Int}(e:w.bars[p]? = some r):gX [w.enc,.int p] h=.ok (.int r) h:=by
  have q:atI (w.bars.map .int) (p:Int)=some (.int r):=cT (by simp [e])
  exact (cq rfl rfl (bA (a0 (a0 rfl rfl rfl rfl) rfl rfl q))).trans bg
theorem jj (w:Web)(h:Hd){p:Nat}{r:Option Int}(e:w.stays[p]? = some r):cM [w.enc,.int p] h=.ok (bz r) h:=by
  have q:atI (w.stays.map bz) (p:Int)=some (bz r):=cT (by simp [e])
  exact (cq rfl rfl (bA (a0 (a0 rfl rfl rfl rfl) rfl rfl q))).trans bg
theorem GL {w:Web}{n:Nat}{s:List Int}(W:w.Ok n)(F:cn w n s)(h:Hd):pv [w.enc,au s] h=.ok (.bl true) h:=by
  obtain⟨σ',h',h1,h2,a,b,c,h3⟩:=cZ (P:=fun _ σ h'=>h'=h ∧ ∃ a b c,σ = [some w.enc,some (au s),a,b,c]) (g:=none) (k:=0)
      (all:=((List.range (s.map D.int).length).zip (s.map D.int)).map fun p=>D.tup [.int (p.1:Nat),p.2]) (fun _ _ _ _=>trivial)
      (xs:=((List.range (s.map D.int).length).zip (s.map D.int)).map fun p=>D.tup [.int (p.1:Nat),p.2]) (tg:=gT [2,3]) (σ:=[some w.enc,some (au s),none,none,none]) (h:=h)
      (b:=Bm) (by
      rintro i x σ h0 hx ⟨rfl,a,b,c,rfl⟩
      have hi:i < s.length:=by
        have:=(List.getElem?_eq_some_iff.mp hx).1
        simpa using this
      have hx':x=.tup [.int (i:Nat),.int s[i]]:=by simpa [hi,List.getElem?_eq_getElem] using hx.symm
      subst hx'
      have hs:w.stays[i]? = some (w.stays[i]'(by rw [W.s,← F.len];exact hi)):=List.getElem?_eq_getElem _
      generalize w.stays[i]'(by rw [W.s,← F.len];exact hi)=st at hs
      have op:cU [.int s[i]] h0=.ok (.bl true) h0:=by
        rw [pw];rcases F.op _ (List.getElem_mem hi) with e|e<;>rw [e]<;>rfl
      have s1:sIf (ib (tE (ar cU (af (aa 3) aq)))) (bc (fC (.bl false))) b9 [some w.enc,some (au s),some (.int i),some (.int s[i]),c] h0=.nx [some w.enc,some (au s),some (.int i),some (.int s[i]),c] h0:=d9 (jg (bh (aA (bq rfl rfl) op)))
      have sv:=jj w h0 hs
      cases st with
      | none=>exact⟨_,rfl,_,h0,(aW s1).trans ((aW (bn (aA (bU rfl rfl) sv))).trans (d9 (Bi (bh (ax rfl rfl rfl))))),rfl,_,_,_,rfl⟩
      | some y =>
        have hy:s[i] = y:=by have:=F.st i y hs;rw [List.getElem?_eq_getElem hi] at this;exact Option.some.inj this
        exact⟨_,rfl,_,h0,(aW s1).trans ((aW (bn (aA (bU rfl rfl) sv))).trans (d9 (kr (bh (ax rfl rfl rfl)) (bh (ax rfl rfl (by rw [show bz (some y)=D.int y from rfl,y9,decide_eq_true hy];rfl)))))),rfl,_,_,_,rfl⟩) ⟨rfl,_,_,_,rfl⟩
  rw [h2,h3] at h1
  have s1:sIf (tOr (ib (tE (kJ .tuple (aa 1)))) (tE (ak oNe (cX (lOf (aa 1))) (ar cw (af (aa 0) aq))))) (bc (fC (.bl false))) b9 [some w.enc,some (au s),none,none,none] h=.nx [some w.enc,some (au s),none,none,none] h :=
    d9 (nj (jg (b:=true) (bh rfl)) (bh (ax (dc (cL rfl rfl)) (aA (bq rfl rfl) (ji w h)) (by rw [y9,List.length_map,F.len,W.t,decide_eq_true rfl];rfl))))
  exact (cq rfl rfl ((aW s1).trans ((aW (lX rfl h1)).trans (bA rfl)))).trans bg
theorem wU {w:Web}{n:Nat}{s:List Int}(W:w.Ok n)(F:cn w n s)(h:Hd):cg [w.enc,au s] h=.ok .non h:=by
  exact (Kw rfl rfl (d9 (jg (bh (aA (bU rfl rfl) (GL W F h)))))).trans bg
theorem jN (l:List Int):eA (l.map .int)=some l:=by
  induction l with
  | nil=>rfl
  | cons x xs ih=>simp [eA,ih]
theorem Jq {s:List Int}{i:Nat}(h:i < s.length):atI (s.map .int) (i:Int)=some (.int s[i]):=cT (by simp [h])
def fG (r:List (Nat × Int)) (s:List Int):List Int:=(r.filter fun p=>decide (s.getD p.1 0=1)).map (·.2)
def bN (r:List (Nat × Int)) (s:List Int):Int:=(fG r s).sum
theorem Ex {r:List (Nat × Int)}{s:List Int}(hr:∀ q∈r,q.1 < s.length)(h:Hd):bQ none (r.map cK) (gT [0,1]) [(tE (ak oEq (fAt (aa 2) (aa 0)) (fC (.int 1))))] (aa 1) (r.map cK) [none,none,some (au s)] h=.ok ((fG r s).map D.int) h:=by
  have key:bQ none (r.map cK) (gT [0,1]) [(tE (ak oEq (fAt (aa 2) (aa 0)) (fC (.int 1))))] (aa 1) (r.map cK) [none,none,some (au s)] h
      = .ok (((r.map cK).filter fun d=>match d with | .tup [.int i,_]=>decide (s.getD i.toNat 0=1)|_=>false).map fun d=>match d with | .tup [_,x]=>x|_=>.non) h:=by
    refine bJ (g:=none) (I:=fun σ=>∃ a b,σ = [a,b,some (au s)]) _ _ trivial ?_ ⟨_,_,rfl⟩
    rintro x hx σ ⟨a,b,rfl⟩
    obtain⟨⟨q,wt⟩,hq,rfl⟩:=List.mem_map.mp hx
    exact⟨_,rfl,⟨_,_,rfl⟩,lY (bh (ax (a0 rfl rfl rfl (GK (hr _ hq))) rfl sH)),fun _=>rfl⟩
  rw [key,fG,List.filter_map,List.map_map,List.map_map]
  rfl
theorem zb {w:Web}{n:Nat}{s:List Int}(W:w.Ok n)(hs:s.length=n){p:Nat}{r:List (Nat × Int)}(e:w.ties[p]? = some r)(h:Hd) :
    fK [w.enc,au s,.int p] h=.ok (.int (2 * bN r s)) h:=by
  have hr:∀ q∈r,q.1 < s.length:=fun q hq=>by rw [hs];exact W.lt r (List.mem_of_getElem? e) q hq
  exact (cq rfl rfl (bA (ax rfl (Ev (eh (pr (aA (bU rfl rfl) (wT w h e))) (Ex hr h)) (jN _)) (Bj (by decide))))).trans bg
def iz (w:Web) (f s:List Int) (p:Nat):Int:=(2 * w.bars.getD p 0 + 1) * (f.getD p 0 + s.getD p 0) - (if s.getD p 0=1 then 2 * (2 * bN (w.ties.getD p []) f) + 2 * f.getD p 0 else 0)
def de (w:Web) (f s:List Int):Nat→Int
  | 0=>0
  | k + 1=>de w f s k + iz w f s k
theorem GM {x:Int}(h:x=0∨x=1):sml x=true:=by rcases h with e|e<;>subst e<;>decide
theorem ul {α : Type}{f : α → D}{l:List α}{i:Nat}(h:i < l.length):atI (l.map f) (i:Int)=some (f l[i]):=cT (by simp [h])
end Fm
set_option linter.all false
namespace Fm
noncomputable def eH:Fn:=bM 3 6 (aE (aT (gN 3) (ar cM (af (aa 0) (af (aa 2) aq))))
    (aE (sIf (tE (ak kH (aa 3) (fC .non))) (bc (aa 3)) b9)
    (aE (aT (gN 4) (ar fK (af (aa 0) (af (aa 1) (af (aa 2) aq)))))
    (aE (aT (gN 5) (ar gX (af (aa 0) (af (aa 2) aq))))
    (aE (sIf (tE (ak oEq (aa 4) (aa 5))) (bc (fAt (aa 1) (aa 2))) b9)
    (bc (fIf (tE (ak oGt (aa 4) (aa 5))) (fC (.int 1)) (fC (.int 0)))))))))
noncomputable def cN:Fn:=bM 2 2 (bc (cY (bF 1 [0,1] (bm (ar cw (af (aa 0) aq))) (gN 0) [] (ar eH (af (aa 1) (af (aa 2) (af (aa 0) aq)))))))
noncomputable abbrev px:SF:=(aE (gQ (ik (aa 2) (aa 3)))
    (aT (gN 3) (ar cN (af (aa 0) (af (aa 3) aq)))))
noncomputable def iA:Fn:=bM 2 5 (aE (gQ (ar cg (af (aa 0) (af (aa 1) aq))))
    (aE (aT (gN 2) (cj (af (aa 1) (af (ar cN (af (aa 0) (af (aa 1) aq))) aq))))
    (aE (aT (gN 3) (ar cN (af (aa 0) (af (fAt (aa 2) (fC (.int 1))) aq))))
    (aE (oK (tE (ak oNe (aa 3) (fAt (aa 2) (fC (.int (-2)))))) px)
    (aE (aT (gN 4) (fIf (tE (ak oEq (fAt (aa 2) (fC (.int (-1)))) (fAt (aa 2) (fC (.int (-2)))))) (fC (.str [114,101,115,116])) (fC (.str [112,97,105,114]))))
    (bc (gw (af (ak ig (cX (lOf (aa 2))) (fC (.int 2))) (af (aa 4) (af (aa 2) aq))))))))))
def cS (w:Web) (s:List Int) (p:Nat):Int:=match w.stays.getD p none with
  | some x=>x
  | none=>if 2 * bN (w.ties.getD p []) s=w.bars.getD p 0 then s.getD p 0 else if w.bars.getD p 0 < 2 * bN (w.ties.getD p []) s then 1 else 0
def cD (w:Web) (n:Nat) (s:List Int):List Int:=(List.range n).map (cS w s)
theorem zc {w:Web}{n:Nat}{s:List Int}(W:w.Ok n)(F:cn w n s){p:Nat}(hp:p < n)(h:Hd):eH [w.enc,au s,.int p] h=.ok (.int (cS w s p)) h:=by
  have ht:p < w.ties.length:=by rw [W.t];exact hp
  have hb:p < w.bars.length:=by rw [W.b];exact hp
  have hst:p < w.stays.length:=by rw [W.s];exact hp
  have hs:p < s.length:=by rw [F.len];exact hp
  have et:w.ties[p]? = some w.ties[p]:=by simp [ht]
  have eb:w.bars[p]? = some w.bars[p]:=by simp [hb]
  have es:w.stays[p]? = some w.stays[p]:=by simp [hst]
  have pull:=zb W F.len et h
  have gt:w.ties.getD p [] = w.ties[p]:=by simp [List.getD,ht]
  have gb:w.bars.getD p 0=w.bars[p]:=by simp [List.getD,hb]
  have gs:w.stays.getD p none=w.stays[p]:=by simp [List.getD,hst]
  have gi:s.getD p 0=s[p]:=by simp [List.getD,hs]
  have ai:=Jq hs
  cases c:w.stays[p] with
  | some x =>
    rw [c] at es
    have nx:cS w s p=x:=by unfold cS;rw [gs,c]
    rw [nx]
    exact (cq rfl rfl ((aW (bn (aA (bU rfl rfl) (jj w h es)))).trans (nk ((kq (bh (ax rfl rfl rfl))).trans (bA rfl))))).trans bg
  | none =>
    rw [c] at es
    have sv:=jj w h es
    have bv:=za w h eb
    simp only [cS,gs,c,gt,gb,gi]
    have s1:aT (gN 3) (ar cM (af (aa 0) (af (aa 2) aq))) [some w.enc,some (au s),some (.int p),none,none,none] h=.nx [some w.enc,some (au s),some (.int p),some .non,none,none] h:=bn (aA (bU rfl rfl) sv)
    have s2:sIf (tE (ak kH (aa 3) (fC .non))) (bc (aa 3)) b9 [some w.enc,some (au s),some (.int p),some .non,none,none] h=.nx [some w.enc,some (au s),some (.int p),some .non,none,none] h:=d9 (bh (ax rfl rfl rfl))
    generalize 2 * bN w.ties[p] s=P at pull
    have s3:aT (gN 4) (ar fK (af (aa 0) (af (aa 1) (af (aa 2) aq)))) [some w.enc,some (au s),some (.int p),some .non,none,none] h=.nx [some w.enc,some (au s),some (.int p),some .non,some (.int P),none] h:=bn (aA (bq rfl (bU rfl rfl)) pull)
    have s4:aT (gN 5) (ar gX (af (aa 0) (af (aa 2) aq))) [some w.enc,some (au s),some (.int p),some .non,some (.int P),none] h=.nx [some w.enc,some (au s),some (.int p),some .non,some (.int P),some (.int w.bars[p])] h:=bn (aA (bU rfl rfl) bv)
    have go:∀ {v:Int},aE (sIf (tE (ak oEq (aa 4) (aa 5))) (bc (fAt (aa 1) (aa 2))) b9) (bc (fIf (tE (ak oGt (aa 4) (aa 5))) (fC (.int 1)) (fC (.int 0)))) [some w.enc,some (au s),some (.int p),some .non,some (.int P),some (.int w.bars[p])] h=.rt (.int v) h→eH [w.enc,au s,.int p] h=.ok (.int v) h:=fun e=>(cq rfl rfl ((aW s1).trans ((aW s2).trans ((aW s3).trans ((aW s4).trans e))))).trans bg
    by_cases e1:P=w.bars[p]
    · rw [if_pos e1];exact go (nk ((kq (bh (ax rfl rfl (ui e1)))).trans (bA (a0 rfl rfl rfl ai))))
    · rw [if_neg e1]
      by_cases e2:w.bars[p] < P
      · rw [if_pos e2];exact go ((aW (d9 (bh (ax rfl rfl (pj e1))))).trans (bA ((uj (bh (ax rfl rfl (y4 e2)))).trans rfl)))
      · rw [if_neg e2];exact go ((aW (d9 (bh (ax rfl rfl (pj e1))))).trans (bA ((y8 (bh (ax rfl rfl (pq e2)))).trans rfl)))
theorem iB {w:Web}{n:Nat}{s:List Int}(W:w.Ok n)(F:cn w n s)(h:Hd):cN [w.enc,au s] h=.ok (au (cD w n s)) h:=by
  have key:bQ none ((List.range n).map fun k:Nat=>D.int k) (gN 0) [] (ar eH (af (aa 1) (af (aa 2) (af (aa 0) aq)))) ((List.range n).map fun k:Nat=>D.int k) [none,some w.enc,some (au s)] h
      = .ok (((((List.range n).map fun k:Nat=>D.int k).filter fun _=>true)).map fun d=>match d with | .int i=>.int (cS w s i.toNat)|_=>.non) h:=by
    refine bJ (g:=none) (I:=fun σ=>∃ a,σ = [a,some w.enc,some (au s)]) _ _ trivial ?_ ⟨_,rfl⟩
    rintro x hx σ ⟨a,rfl⟩
    obtain⟨i,hi,rfl⟩:=List.mem_map.mp hx
    have hi:=List.mem_range.mp hi
    exact⟨_,rfl,⟨_,rfl⟩,by simp,fun _=>aA (bq rfl (bU rfl rfl)) (zc W F hi h)⟩
  have k2:((((List.range n).map fun k:Nat=>D.int k).filter fun _=>true)).map (fun d=>match d with | .int i=>D.int (cS w s i.toNat)|_=>.non)=(cD w n s).map D.int:=by
    rw [List.filter_eq_self.mpr (by simp),List.map_map,cD,List.map_map];rfl
  rw [k2] at key
  have mq:cw [w.enc] h=.ok (.int n) h:=W.t ▸ ji w h
  exact (cq rfl rfl (bA (oq (eh (eY (aA (bq rfl rfl) mq) W.sz) key)))).trans bg
def cG (w:Web):Prop:=∀ x∈w.stays,x=none∨x=some 0∨x=some 1
theorem dD {w:Web}{n:Nat}{s:List Int}(F:cn w n s)(i:Nat):s.getD i 0=0∨s.getD i 0=1:=by
  by_cases hi:i < s.length
  · rw [List.getD,List.getElem?_eq_getElem hi];exact F.op _ (List.getElem_mem hi)
  · rw [List.getD,List.getElem?_eq_none (by omega)];exact .inl rfl
theorem py {w:Web}{n:Nat}{s:List Int}(F:cn w n s)(S:cG w)(p:Nat):cS w s p=0∨cS w s p=1:=by
  unfold cS
  cases c:w.stays.getD p none with
  | some x =>
    have:some x∈w.stays:=by
      rw [List.getD] at c
      cases e:w.stays[p]? with
      | none=>rw [e] at c;cases c
      | some y=>rw [e] at c;simp at c;subst c;exact List.mem_of_getElem? e
    have:=S _ this
    simp at this
    exact this
  | none =>
    simp only
    split
    · exact dD F p
    · split<;>simp
theorem Cq {w:Web}{n:Nat}{s:List Int}(W:w.Ok n)(S:cG w)(F:cn w n s):cn w n (cD w n s) where
  len:=by simp [cD]
  op:=fun x hx=>by
    obtain⟨p,hp,rfl⟩:=List.mem_map.mp hx
    exact py F S p
  st:=fun i x e=>by
    have hi:i < n:=by rw [← W.s];exact (List.getElem?_eq_some_iff.mp e).1
    have:w.stays.getD i none=some x:=by simp [List.getD,e]
    have hn:cS w s i=x:=by unfold cS;rw [this]
    simp [cD,hi,hn]
def av (w:Web) (n:Nat) (s:List Int):Nat→List Int
  | 0=>s
  | k + 1=>cD w n (av w n s k)
theorem aQ {w:Web}{n:Nat}{s:List Int}(W:w.Ok n)(S:cG w)(F:cn w n s):∀ k,cn w n (av w n s k)
  | 0=>F
  | k + 1=>Cq W S (aQ W S F k)
def aR (w:Web) (n:Nat) (s:List Int) (m:Nat):List (List Int):=(List.range m).map (av w n s)
theorem zd {w:Web}{n:Nat}{s:List Int}(m:Nat):aR w n s (m + 1)=aR w n s m++[av w n s m]:=by simp [aR,List.range_succ]
theorem dQ {w:Web}{n:Nat}{s:List Int}(m:Nat):(aR w n s m).length=m:=by simp [aR]
theorem gY {w:Web}{n:Nat}{s:List Int}{m i:Nat}(h:i < m):atI ((aR w n s m).map au) (i:Int)=some (au (av w n s i)):=cT (by simp [aR,h])
end Fm
set_option linter.all false
namespace Fm
def S2 (R:Nat→List (Nat × Int)) (f s:Nat→Int):Nat→Int
  | 0=>0
  | k + 1=>S2 R f s k + ((R k).map fun p=>p.2 * f p.1 * s k).sum
def iW (g:Nat→Int):Nat→Int
  | 0=>0
  | n + 1=>iW g n + g n
theorem Cr (g:Nat→Int)(n:Nat):((List.range n).map g).sum=iW g n:=by
  induction n with
  | zero=>rfl
  | succ n ih=>rw [List.range_succ,List.map_append,List.sum_append,ih];simp [iW]
theorem wV (l:List Int):l.sum=iW (fun k=>l.getD k 0) l.length:=by
  rw [← Cr]
  congr 1
  apply List.ext_getElem?
  intro i
  by_cases hi:i < l.length<;>simp [List.getD,hi]
def lZ (w:Web) (n:Nat) (f s:List Int):Int :=
  2 * iW (fun k=>(f.getD k 0 + s.getD k 0) * w.bars.getD k 0) n + f.sum + s.sum - 4 * S2 (fun i=>w.ties.getD i []) (fun k=>f.getD k 0) (fun k=>s.getD k 0) n - 2 * iW (fun k=>f.getD k 0 * s.getD k 0) n
theorem Cs {r:List (Nat × Int)}{f:List Int}(hf:∀ p∈r,f.getD p.1 0=0∨f.getD p.1 0=1):bN r f=(r.map fun p=>p.2 * f.getD p.1 0).sum:=by
  induction r with
  | nil=>rfl
  | cons p r ih =>
    have h1:=hf p (by simp)
    have h2:=ih fun q hq=>hf q (by simp [hq])
    simp only [bN,fG] at h2 ⊢
    rcases h1 with e|e
    · simp [-List.getD_eq_getElem?_getD,e,h2]
    · simp [-List.getD_eq_getElem?_getD,e,h2]
theorem sI {w:Web}{n:Nat}{f s:List Int}(W:w.Ok n)(Ff:cn w n f)(Fs:cn w n s):de w f s n=lZ w n f s:=by
  have bit:∀ {l:List Int} (F:cn w n l) (i:Nat),l.getD i 0=0∨l.getD i 0=1:=fun {l} F i=>by
    by_cases hi:i < l.length
    · rw [List.getD,List.getElem?_eq_getElem hi];exact F.op _ (List.getElem_mem hi)
    · rw [List.getD,List.getElem?_eq_none (by omega)];exact .inl rfl
  have key:∀ m,m≤n→de w f s m=2 * iW (fun k=>(f.getD k 0 + s.getD k 0) * w.bars.getD k 0) m + iW (fun k=>f.getD k 0) m + iW (fun k=>s.getD k 0) m
      - 4 * S2 (fun i=>w.ties.getD i []) (fun k=>f.getD k 0) (fun k=>s.getD k 0) m - 2 * iW (fun k=>f.getD k 0 * s.getD k 0) m:=by
    intro m
    induction m with
    | zero=>intro _;rfl
    | succ m ih =>
      intro hm
      have ih:=ih (by omega)
      simp only [de,iW,S2,iz,ih]
      have pe:=Cs (r:=w.ties.getD m []) (f:=f) fun p _=>bit Ff p.1
      have bf:=bit Ff m
      have bs:=bit Fs m
      have row:((w.ties.getD m []).map fun p=>p.2 * f.getD p.1 0 * s.getD m 0).sum=bN (w.ties.getD m []) f * s.getD m 0:=by
        rw [pe]
        generalize w.ties.getD m [] = r
        induction r with
        | nil=>simp
        | cons p r ih=>simp only [List.map_cons,List.sum_cons,ih,Int.add_mul]
      rw [row]
      rcases bf with e|e<;>rcases bs with e'|e'<;>simp only [e,e']<;>simp<;>omega
  rw [key n (Nat.le_refl _),lZ,wV f,wV s,Ff.len,Fs.len]
theorem ze {w:Web}{n:Nat}{f s:List Int}(sym:∀ f s,S2 (fun i=>w.ties.getD i []) f s n=S2 (fun i=>w.ties.getD i []) s f n):lZ w n f s=lZ w n s f:=by
  have c1:(fun k=>(f.getD k 0 + s.getD k 0) * w.bars.getD k 0)=fun k=>(s.getD k 0 + f.getD k 0) * w.bars.getD k 0:=by funext k;rw [Int.add_comm]
  have c2:(fun k=>f.getD k 0 * s.getD k 0)=fun k=>s.getD k 0 * f.getD k 0:=by funext k;rw [Int.mul_comm]
  rw [lZ,lZ,c1,c2,sym];omega
theorem Ct {w:Web}{n:Nat}{f s:List Int}(W:w.Ok n)(Ff:cn w n f)(Fs:cn w n s)(sym:∀ f s,S2 (fun i=>w.ties.getD i []) f s n=S2 (fun i=>w.ties.getD i []) s f n):de w f s n=de w s f n:=by
  rw [sI W Ff Fs,sI W Fs Ff,ze sym]
def unl (a b:List Int) (n:Nat):Int:=iW (fun p=>if a.getD p 0=b.getD p 0 then 0 else 1) n
theorem kt (a b:List Int):∀ n,0≤unl a b n
  | 0=>by simp [unl,iW]
  | n + 1=>by
    have:=kt a b n
    simp only [unl,iW] at this ⊢
    split<;>omega
theorem Bn {a b:List Int}:∀ {n:Nat},(∃ p,p < n∧a.getD p 0≠b.getD p 0)→1≤unl a b n
  | 0,⟨p,hp,_⟩=>by omega
  | n + 1,⟨p,hp,hne⟩=>by
    have h0:=kt a b n
    by_cases e:p=n
    · subst e
      simp only [unl,iW] at h0 ⊢
      rw [if_neg hne];omega
    · have:=Bn (a:=a) (b:=b) (n:=n) ⟨p,by omega,hne⟩
      simp only [unl,iW] at this ⊢
      split<;>omega
theorem GN {a b:List Int}{n:Nat}(ha:a.length=n)(hb:b.length=n)(h:a≠b):∃ p,p < n∧a.getD p 0≠b.getD p 0:=by
  refine Classical.byContradiction fun q=>h ?_
  apply List.ext_getElem (by omega)
  intro i h1 h2
  refine Classical.byContradiction fun z=>q ⟨i,by omega,?_⟩
  simpa [List.getD,h1,h2] using z
theorem Cu {w:Web}{n:Nat}{s:List Int}{p:Nat}(hp:p < n):(cD w n s).getD p 0=cS w s p:=by simp [cD,List.getD,hp]
theorem Cv {w:Web}{n:Nat}{s:List Int}(F:cn w n s){p:Nat}{x:Int}(e:w.stays.getD p none=some x):s.getD p 0=x:=by
  have:w.stays[p]? = some (some x):=by
    rw [List.getD] at e
    cases c:w.stays[p]? with
    | none=>rw [c] at e;cases e
    | some y=>rw [c] at e;simp at e;rw [e]
  have:=F.st p x this
  simp [List.getD,this]
theorem Lf {w:Web}{n:Nat}{s0 s1:List Int}(W:w.Ok n)(F0:cn w n s0)(F1:cn w n s1)(sym:∀ f s,S2 (fun i=>w.ties.getD i []) f s n=S2 (fun i=>w.ties.getD i []) s f n) :
    de w s1 (cD w n s1) n + unl s0 (cD w n s1) n≤de w s0 s1 n:=by
  rw [Ct W F0 F1 sym]
  have key:∀ m,m≤n→de w s1 (cD w n s1) m + unl s0 (cD w n s1) m≤de w s1 s0 m:=by
    intro m
    induction m with
    | zero=>intro _;simp [de,unl,iW]
    | succ m ih =>
      intro hm
      have ih:=ih (by omega)
      have b0:=dD F0 m
      have b1:=dD F1 m
      have e2:=Cu (w:=w) (s:=s1) (p:=m) (n:=n) (by omega)
      have step:iz w s1 (cD w n s1) m + (if s0.getD m 0=(cD w n s1).getD m 0 then 0 else 1)≤iz w s1 s0 m:=by
        unfold iz
        rw [e2]
        unfold cS
        cases c:w.stays.getD m none with
        | some x =>
          have:=Cv F0 c
          simp only [this]
          simp
        | none =>
          simp only
          generalize w.bars.getD m 0=b
          generalize bN (w.ties.getD m []) s1=P
          generalize s0.getD m 0=x0 at b0 ⊢
          generalize s1.getD m 0=x1 at b1 ⊢
          by_cases h1:2 * P=b
          · rw [if_pos h1]
            rcases b0 with z|z<;>rcases b1 with y|y<;>subst z y<;>simp<;>omega
          · rw [if_neg h1]
            by_cases h2:b < 2 * P
            · rw [if_pos h2]
              rcases b0 with z|z<;>rcases b1 with y|y<;>subst z y<;>simp<;>omega
            · rw [if_neg h2]
              rcases b0 with z|z<;>rcases b1 with y|y<;>subst z y<;>simp<;>omega
      simp only [de,unl,iW] at ih ⊢
      omega
  exact key n (Nat.le_refl _)
def ku (r:List (Nat × Int)):Int:=(r.map fun p=>(p.2.natAbs:Int)).sum
theorem sJ (r:List (Nat × Int))(f:List Int):bN r f≤ku r:=by
  induction r with
  | nil=>simp [bN,fG,ku]
  | cons p r ih =>
    simp only [bN,fG,ku,List.filter_cons,List.map_cons,List.sum_cons] at ih ⊢
    split
    · simp only [List.map_cons,List.sum_cons];omega
    · omega
theorem Ey {w:Web}{n:Nat}:∀ m,∃ C:Int,∀ f s,cn w n f→cn w n s → -C≤de w f s m
  | 0=>⟨0,fun f s _ _=>by simp [de]⟩
  | m + 1=>by
    obtain⟨C,hC⟩:=Ey (w:=w) (n:=n) m
    refine⟨C + (2 * ((2 * w.bars.getD m 0 + 1).natAbs:Int) + 4 * ku (w.ties.getD m []) + 2 + 4 * ((ku (w.ties.getD m [])).natAbs:Int)),fun f s Ff Fs => ?_⟩
    have ih:=hC f s Ff Fs
    have b0:=dD Ff m
    have b1:=dD Fs m
    have pl:=sJ (w.ties.getD m []) f
    simp only [de,iz]
    generalize w.bars.getD m 0=b at *
    generalize bN (w.ties.getD m []) f=P at *
    generalize ku (w.ties.getD m [])=A at *
    generalize de w f s m=T at *
    rcases b0 with z|z<;>rcases b1 with y|y<;>simp only [z,y]<;>simp<;>omega
theorem zf {P:Nat→Prop}(h:∃ t,P t):∃ t,P t ∧ ∀ k,k < t → ¬ P k:=by
  obtain⟨t,ht⟩:=h
  induction t using Nat.strongRecOn with
  | ind t ih =>
    by_cases q:∃ k,k < t∧P k
    · obtain⟨k,hk,pk⟩:=q
      exact ih k hk pk
    · exact⟨t,ht,fun k hk pk=>q ⟨k,hk,pk⟩⟩
def eN (w:Web) (n:Nat) (s:List Int) (k:Nat):Int:=de w (av w n s k) (av w n s (k + 1)) n
theorem Bo {w:Web}{n:Nat}{s:List Int}(W:w.Ok n)(S:cG w)(F:cn w n s)(sym:∀ f s,S2 (fun i=>w.ties.getD i []) f s n=S2 (fun i=>w.ties.getD i []) s f n)(k:Nat) :
    eN w n s (k + 1) + unl (av w n s k) (av w n s (k + 2)) n≤eN w n s k:=Lf W (aQ W S F k) (aQ W S F (k + 1)) sym
theorem Ez {w:Web}{n:Nat}{s:List Int}(W:w.Ok n)(S:cG w)(F:cn w n s)(sym:∀ f s,S2 (fun i=>w.ties.getD i []) f s n=S2 (fun i=>w.ties.getD i []) s f n){k:Nat}(h:av w n s (k + 2)≠av w n s k):eN w n s (k + 1) + 1≤eN w n s k:=by
  have:=Bo W S F sym k
  have:=Bn (n:=n) (GN (aQ W S F k).len (aQ W S F (k + 2)).len (Ne.symm h))
  omega
theorem HV {w:Web}{n:Nat}{s:List Int}(W:w.Ok n)(S:cG w)(F:cn w n s)(sym:∀ f s,S2 (fun i=>w.ties.getD i []) f s n=S2 (fun i=>w.ties.getD i []) s f n){k:Nat}:∀ {m:Nat},k≤m→eN w n s m≤eN w n s k
  | 0,h=>by
    have:k=0:=by omega
    subst this;exact Int.le_refl _
  | m + 1,h=>by
    by_cases e:k=m + 1
    · subst e;exact Int.le_refl _
    · have h1:=HV W S F sym (k:=k) (m:=m) (by omega)
      have h2:=Bo W S F sym m
      have h3:=kt (av w n s m) (av w n s (m + 2)) n
      omega
theorem Kx {w:Web}{n:Nat}{s:List Int}(W:w.Ok n)(S:cG w)(F:cn w n s)(sym:∀ f s,S2 (fun i=>w.ties.getD i []) f s n=S2 (fun i=>w.ties.getD i []) s f n):∃ t,av w n s (t + 2)=av w n s t ∧ ∀ k,k < t→av w n s (k + 2)≠av w n s k:=by
  refine zf (P:=fun t=>av w n s (t + 2)=av w n s t) ?_
  refine Classical.byContradiction fun q => ?_
  obtain⟨C,hC⟩:=Ey (w:=w) (n:=n) n
  have down:∀ k:Nat,eN w n s k + k≤eN w n s 0:=by
    intro k
    induction k with
    | zero=>simp
    | succ k ih =>
      have:=Ez W S F sym (k:=k) fun z=>q ⟨k,z⟩
      omega
  have h1:=down (eN w n s 0 + C + 1).toNat
  have h2 : -C≤eN w n s (eN w n s 0 + C + 1).toNat:=hC _ _ (aQ W S F _) (aQ W S F _)
  have h3 : -C≤eN w n s 0:=hC _ _ (aQ W S F _) (aQ W S F _)
  omega
end Fm
set_option linter.all false
namespace Fm
theorem sK:∀ (a b:List Int),a.length=b.length→ii (a.map .int) (b.map .int)=some (decide (a=b))
  | [],[],_=>by simp [ii]
  | x :: a,y :: b,h=>by
    have ih:=sK a b (by simpa using h)
    simp only [List.map_cons,ii,peq,ih]
    by_cases e:x=y<;>by_cases e2:a=b<;>simp [e,e2]
  | [],_ :: _,h=>by simp at h
  | _ :: _,[],h=>by simp at h
theorem Cw (l:List Int):qz (l.map .int)=0:=by
  induction l with
  | nil=>rfl
  | cons x l ih=>simp [qz,dep,ih]
theorem GO (l:List Int):dep (au l)=1:=by simp [au,dep,Cw]
theorem GP {a b:List Int}(h:a.length=b.length):peq (au a) (au b)=some (decide (a=b)):=by
  simp only [au,peq,sK a b h,Option.map_some,List.length_map,h]
  simp
theorem Bp {a b:List Int}(h:a.length=b.length)(hd:Hd):eqG hd (au a) (au b)=some (decide (a=b)):=by
  have e1:∀ l,cI hd (au l)=none:=fun l=>rfl
  simp only [eqG,e1,GO,GP h]
  rfl
theorem um {a b:List Int}(h:a.length=b.length)(hd:Hd):oNe (au a) (au b) hd=.ok (.bl (!decide (a=b))) hd:=by
  unfold oNe;rw [Bp h]
theorem uo {a b:List Int}(h:a.length=b.length)(hd:Hd):oEq (au a) (au b) hd=.ok (.bl (decide (a=b))) hd:=by
  unfold oEq;rw [Bp h]
theorem Ky {k n:Nat}(h1:1≤k)(h2:k≤n) : ¬ 0 ≤ -(k:Int) ∧ -(n:Int) ≤ -(k:Int)∧(-(k:Int) + (n:Int)).toNat=n - k:=by omega
theorem GQ {l:List D}{k:Nat}(h1:1≤k)(h2:k≤l.length):atI l (-(k:Int))=l[l.length - k]? := by
  have q:=Ky h1 h2
  unfold atI ixN
  rw [if_neg q.1,if_pos q.2.1,q.2.2];rfl
theorem gZ {w:Web}{n:Nat}{s:List Int}(k j:Nat)(h1:1≤j):atI ((aR w n s (k + j)).map au) (-(j:Int))=some (au (av w n s k)):=by
  rw [GQ h1 (by rw [List.length_map,dQ];exact Nat.le_add_left j k),List.length_map,dQ,Nat.add_sub_cancel,List.getElem?_map,aR,List.getElem?_map,List.getElem?_range (Nat.lt_add_of_pos_right h1)];rfl
theorem dj {a b:SF}{σ σ':Sd}{h h':Hd}(e:a σ h=.nx σ' h'):aE a b σ h=b σ' h':=by simp [aE,e]
theorem EA {w:Web}{n:Nat}{s:List Int}(W:w.Ok n)(S:cG w)(F:cn w n s){t:Nat}(ht:av w n s (t + 2)=av w n s t)(hm:∀ k,k < t→av w n s (k + 2)≠av w n s k)(hz:t≤900000)(h:Hd) :
    iA [w.enc,au s] h=.ok (.tup [.int t,.str (if av w n s (t + 1)=av w n s t then [114,101,115,116] else [112,97,105,114]),.ref h.length]) (h++[.lst ((aR w n s (t + 2)).map au)]):=by
  have L:∀ k,(av w n s k).length=n:=fun k=>(aQ W S F k).len
  have loop:∀ j k,k + j=t→dA (tE (ak oNe (aa 3) (fAt (aa 2) (fC (.int (-2)))))) px (j + 1) [some w.enc,some (au s),some (.ref h.length),some (au (av w n s (k + 2))),none] (h++[.lst ((aR w n s (k + 2)).map au)])
      = .nx [some w.enc,some (au s),some (.ref h.length),some (au (av w n s (t + 2))),none] (h++[.lst ((aR w n s (t + 2)).map au)]):=by
    intro j
    induction j with
    | zero =>
      intro k hk
      have:k=t:=hk
      subst this
      have b':atI ((aR w n s (k + 2)).map au) (-2)=some (au (av w n s k)):=gZ k 2 (by decide)
      have test:tE (ak oNe (aa 3) (fAt (aa 2) (fC (.int (-2))))) [some w.enc,some (au s),some (.ref h.length),some (au (av w n s (k + 2))),none] (h++[.lst ((aR w n s (k + 2)).map au)])=.ok false (h++[.lst ((aR w n s (k + 2)).map au)]):=by
        rw [ht]
        exact bh (ax rfl (a0 rfl rfl (ba List.getElem?_concat_length) b') (by rw [um rfl,decide_eq_true rfl];rfl))
      simp only [dA,test]
    | succ j ih =>
      intro k hk
      have b':atI ((aR w n s (k + 2)).map au) (-2)=some (au (av w n s k)):=gZ k 2 (by decide)
      have test:tE (ak oNe (aa 3) (fAt (aa 2) (fC (.int (-2))))) [some w.enc,some (au s),some (.ref h.length),some (au (av w n s (k + 2))),none] (h++[.lst ((aR w n s (k + 2)).map au)])=.ok true (h++[.lst ((aR w n s (k + 2)).map au)]):=by
        exact bh (ax rfl (a0 rfl rfl (ba List.getElem?_concat_length) b') (by rw [um ((L (k + 2)).trans (L k).symm),decide_eq_false (hm k (hk ▸ Nat.lt_add_of_pos_right (Nat.succ_pos j)))];rfl))
      have lz:((aR w n s (k + 2)).map au).length < SZ:=by rw [List.length_map,dQ];exact Nat.lt_of_le_of_lt (Nat.add_le_add_right (Nat.le_trans (hk ▸ Nat.le_add_right k (j + 1)) hz) 2) (by decide)
      have tk:=iB W (aQ W S F (k + 2)) (h++[.lst ((aR w n s (k + 3)).map au)])
      have body:px [some w.enc,some (au s),some (.ref h.length),some (au (av w n s (k + 2))),none] (h++[.lst ((aR w n s (k + 2)).map au)])=.nx [some w.enc,some (au s),some (.ref h.length),some (au (av w n s (k + 3))),none] (h++[.lst ((aR w n s (k + 3)).map au)]):=by
        have st1:gQ (ik (aa 2) (aa 3)) [some w.enc,some (au s),some (.ref h.length),some (au (av w n s (k + 2))),none] (h++[.lst ((aR w n s (k + 2)).map au)])=.nx [some w.enc,some (au s),some (.ref h.length),some (au (av w n s (k + 2))),none] (h++[.lst ((aR w n s (k + 3)).map au)]):=by
          rw [show aR w n s (k + 3)=aR w n s (k + 2)++[av w n s (k + 2)] from zd (k + 2),List.map_append]
          exact (lW (uh rfl List.getElem?_concat_length rfl List.getElem?_concat_length lz)).trans (by rw [GJ rfl];rfl)
        exact (dj st1).trans (bn (aA (bU rfl rfl) tk))
      rw [dA,test]
      simp only [body]
      exact ih (k + 1) (by rw [Nat.add_right_comm];exact hk)
  have wl:=Cp (loop t 0 (Nat.zero_add t)) (by simp)
  have t0:=iB W F h
  have t1:=iB W (aQ W S F 1) (h++[.lst ((aR w n s 2).map au)])
  have e1 : [au s,au (cD w n s)] = (aR w n s 2).map au:=by simp [aR,List.range_succ,av]
  have a1:atI ((aR w n s 2).map au) 1=some (au (av w n s 1)):=gY (w:=w) (n:=n) (s:=s) (m:=2) (i:=1) (by decide)
  have b1':atI ((aR w n s (t + 2)).map au) (-1)=some (au (av w n s (t + 1))):=gZ (t + 1) 1 (by decide)
  have b2':atI ((aR w n s (t + 2)).map au) (-2)=some (au (av w n s t)):=gZ t 2 (by decide)
  have ln:(aR w n s (t + 2)).length=t + 2:=dQ _
  have eqw:=uo (a:=av w n s (t + 1)) (b:=av w n s t) ((L (t + 1)).trans (L t).symm) (h++[.lst ((aR w n s (t + 2)).map au)])
  simp only [av] at t1
  simp only [av] at a1
  have hh1:av w n s (0 + 2)=cD w n (cD w n s):=rfl
  rw [hh1,show 0 + 2=2 from rfl] at wl
  have s1:aT (gN 2) (cj (af (aa 1) (af (ar cN (af (aa 0) (af (aa 1) aq))) aq))) [some w.enc,some (au s),none,none,none] h
      = .nx [some w.enc,some (au s),some (.ref h.length),none,none] (h++[.lst ((aR w n s 2).map au)]):=by
    rw [← e1];exact bn (ug (bq rfl (bq (aA (bU rfl rfl) t0) rfl)))
  have s2:aT (gN 3) (ar cN (af (aa 0) (af (fAt (aa 2) (fC (.int 1))) aq))) [some w.enc,some (au s),some (.ref h.length),none,none] (h++[.lst ((aR w n s 2).map au)])
      = .nx [some w.enc,some (au s),some (.ref h.length),some (au (cD w n (cD w n s))),none] (h++[.lst ((aR w n s 2).map au)]):=by
    exact bn (aA (bq rfl (bq (a0 rfl rfl (ba List.getElem?_concat_length) a1) rfl)) t1)
  have s3:aT (gN 4) (fIf (tE (ak oEq (fAt (aa 2) (fC (.int (-1)))) (fAt (aa 2) (fC (.int (-2)))))) (fC (.str [114,101,115,116])) (fC (.str [112,97,105,114]))) [some w.enc,some (au s),some (.ref h.length),some (au (av w n s (t + 2))),none] (h++[.lst ((aR w n s (t + 2)).map au)])
      = .nx [some w.enc,some (au s),some (.ref h.length),some (au (av w n s (t + 2))),some (.str (if av w n s (t + 1)=av w n s t then [114,101,115,116] else [112,97,105,114]))] (h++[.lst ((aR w n s (t + 2)).map au)]):=by
    by_cases q:av w n s (t + 1)=av w n s t
    · rw [if_pos q];rw [decide_eq_true q] at eqw
      exact bn ((uj (bh (ax (a0 rfl rfl (ba List.getElem?_concat_length) b1') (a0 rfl rfl (ba List.getElem?_concat_length) b2') eqw))).trans rfl)
    · rw [if_neg q];rw [decide_eq_false q] at eqw
      exact bn ((y8 (bh (ax (a0 rfl rfl (ba List.getElem?_concat_length) b1') (a0 rfl rfl (ba List.getElem?_concat_length) b2') eqw))).trans rfl)
  have ck:gQ (ar cg (af (aa 0) (af (aa 1) aq))) [some w.enc,some (au s),none,none,none] h=.nx [some w.enc,some (au s),none,none,none] h:=lW (aA (bU rfl rfl) (wU W F h))
  have st:([w.enc,au s].map some++List.replicate (5 - [w.enc,au s].length) none:Sd)=[some w.enc,some (au s),none,none,none]:=rfl
  unfold iA bM runB
  rw [if_pos (show [w.enc,au s].length=2 from rfl),st,dj ck,dj s1,dj s2,dj wl,dj s3]
  have z:((t:Int) + 2) - 2=t:=by omega
  simp [ln,SZ,z,letGo,pure?,i3]
end Fm
set_option linter.all false
namespace Fm
def LeS (a b:List Int):Prop:=∀ i:Nat,a.getD i 0≤b.getD i 0
def Cy (a:List Int):Prop:=∀ i:Nat,a.getD i 0=0∨a.getD i 0=1
theorem nn (p:Nat × Int)(r:List (Nat × Int))(s:List Int):bN (p :: r) s=(if s.getD p.1 0=1 then p.2 else 0) + bN r s:=by
  unfold bN fG
  by_cases e:s.getD p.1 0=1
  · rw [List.filter_cons,if_pos (by simp only [decide_eq_true_eq];exact e),if_pos e];rfl
  · rw [List.filter_cons,if_neg (by simp only [decide_eq_true_eq];exact e),if_neg e];omega
theorem nr {a b:List Int}(B:Cy b)(l:LeS a b):∀ {r:List (Nat × Int)},(∀ p∈r,0≤p.2)→bN r a≤bN r b
  | [],_=>Int.le_refl _
  | p :: r,h=>by
    have ih:=nr B l (r:=r) fun q hq=>h q (by simp [hq])
    have h0:=h p (by simp)
    have l0:=l p.1
    have b0:=B p.1
    rw [nn,nn]
    by_cases e:a.getD p.1 0=1
    · have e2:b.getD p.1 0=1:=by omega
      rw [if_pos e,if_pos e2];omega
    · rw [if_neg e]
      by_cases e2:b.getD p.1 0=1
      · rw [if_pos e2];omega
      · rw [if_neg e2];omega
theorem GR {P1 P2 c1 c2 x y:Int}(hp:P1≤P2)(hb:c2≤c1)(l:x≤y)(b1:x=0∨x=1)(b2:y=0∨y=1):(if 2 * P1=c1 then x else if c1 < 2 * P1 then 1 else 0)≤(if 2 * P2=c2 then y else if c2 < 2 * P2 then (1:Int) else 0):=by
  have y0:0≤y:=by rcases b2 with rfl|rfl<;>decide
  have x1:x≤1:=by rcases b1 with rfl|rfl<;>decide
  have q:2 * P1≤2 * P2:=Int.mul_le_mul_of_nonneg_left hp (by decide)
  generalize 2 * P1=A at q
  generalize 2 * P2=B at q
  by_cases e1:A=c1
  · rw [if_pos e1]
    by_cases e2:B=c2
    · rw [if_pos e2];exact l
    · rw [if_neg e2,if_pos (Int.lt_iff_le_and_ne.mpr ⟨Int.le_trans hb (e1 ▸ q),Ne.symm e2⟩)];exact x1
  · rw [if_neg e1]
    by_cases e3:c1 < A
    · have e4:c2 < B:=Int.lt_of_le_of_lt hb (Int.lt_of_lt_of_le e3 q)
      rw [if_pos e3,if_neg (Int.ne_of_gt e4),if_pos e4];exact Int.le_refl _
    · rw [if_neg e3]
      by_cases e2:B=c2
      · rw [if_pos e2];exact y0
      · rw [if_neg e2]
        split
        · decide
        · exact Int.le_refl _
theorem zg {w1 w2:Web}{a b:List Int}{p:Nat}(hp:bN (w1.ties.getD p []) a≤bN (w2.ties.getD p []) b)(hb:w2.bars.getD p 0≤w1.bars.getD p 0)(B1:Cy a)(B2:Cy b)(le:LeS a b)
    (st:(w1.stays.getD p none=none∧w2.stays.getD p none=none)∨w1.stays.getD p none=some 0∨w2.stays.getD p none=some 1) (n1:cS w1 a p=0∨cS w1 a p=1) (n2:cS w2 b p=0∨cS w2 b p=1):cS w1 a p≤cS w2 b p:=by
  rcases st with ⟨s1,s2⟩|s|s
  · have b1:=B1 p
    have b2:=B2 p
    have l:=le p
    unfold cS
    rw [s1,s2]
    generalize bN (w1.ties.getD p []) a=P1 at *
    generalize bN (w2.ties.getD p []) b=P2 at *
    generalize w1.bars.getD p 0=c1 at *
    generalize w2.bars.getD p 0=c2 at *
    generalize a.getD p 0=x at *
    generalize b.getD p 0=y at *
    exact GR hp hb l b1 b2
  · have:cS w1 a p=0:=by unfold cS;rw [s]
    omega
  · have:cS w2 b p=1:=by unfold cS;rw [s]
    omega
theorem sL (w:Web)(n:Nat)(s:List Int)(i:Nat):(cD w n s).getD i 0=if i < n then cS w s i else 0:=by
  unfold cD
  by_cases h:i < n<;>simp [List.getD,h]
theorem cn.bits {w:Web}{n:Nat}{s:List Int}(F:cn w n s):Cy s:=fun i=>dD F i
structure Jr (w1 w2:Web) (n:Nat):Prop where
  go:∀ a b,cn w1 n a→cn w2 n b→LeS a b→LeS (cD w1 n a) (cD w2 n b)
theorem GS {w1 w2:Web}{n:Nat}(S1:cG w1)(S2:cG w2)(hp:∀ p,p < n → ∀ a b,Cy a→Cy b→LeS a b→bN (w1.ties.getD p []) a≤bN (w2.ties.getD p []) b)(hb:∀ p,p < n→w2.bars.getD p 0≤w1.bars.getD p 0)
    (st:∀ p,p < n→(w1.stays.getD p none=none∧w2.stays.getD p none=none)∨w1.stays.getD p none=some 0∨w2.stays.getD p none=some 1):Jr w1 w2 n :=
  ⟨fun a b Fa Fb le i=>by
    rw [sL,sL]
    by_cases h:i < n
    · rw [if_pos h,if_pos h]
      exact zg (hp i h a b Fa.bits Fb.bits le) (hb i h) Fa.bits Fb.bits le (st i h) (py Fa S1 i) (py Fb S2 i)
    · rw [if_neg h,if_neg h];exact Int.le_refl _⟩
theorem sM {w1 w2:Web}{n:Nat}(W1:w1.Ok n)(W2:w2.Ok n)(S1:cG w1)(S2:cG w2)(M:Jr w1 w2 n){a b:List Int}(Fa:cn w1 n a)(Fb:cn w2 n b)(le:LeS a b):∀ k,LeS (av w1 n a k) (av w2 n b k)
  | 0=>le
  | k + 1=>M.go _ _ (aQ W1 S1 Fa k) (aQ W2 S2 Fb k) (sM W1 W2 S1 S2 M Fa Fb le k)
end Fm
set_option linter.all false
namespace Fm
noncomputable def dM:Fn:=bM 1 1 (bc (cj (lOf (fAt (aa 0) (fC (.int 2))))))
noncomputable def eZ:Fn:=bM 2 2 (bc (ar cC (af (aa 1) (af (fC (.int 0)) (af (ak ig (ar cw (af (aa 0) aq)) (fC (.int 1))) aq)))))
noncomputable def ge:Fn:=bM 2 2 (aE (gQ (ar cg (af (aa 0) (af (aa 1) aq))))
    (bc (ar cN (af (aa 0) (af (aa 1) aq)))))
noncomputable def bL:Fn:=bM 2 2 (bc (fT (iX (tE (ar eZ (af (aa 0) (af (aa 1) aq)))) (tE (ak oNe (ar cM (af (aa 0) (af (aa 1) aq))) (fC (.int 0)))))))
noncomputable def cy:Fn:=bM 2 2 (aE (sIf (ib (tE (kJ .list (aa 1)))) (bc (fC (.bl false))) b9)
    (aE (sIf (ib (tE (BU (bF 1 [0] (eW (aa 1)) (gN 0) [] (ar bL (af (aa 1) (af (aa 0) aq))))))) (bc (fC (.bl false))) b9)
    (bc (BU (bF 1 [1] (bm (ak ig (cX (lOf (aa 1))) (fC (.int 1)))) (gN 0) [] (ak oLt (fAt (aa 1) (aa 0)) (fAt (aa 1) (ak bT (aa 0) (fC (.int 1))))))))))
noncomputable def fH:Fn:=bM 2 2 (aE (sIf (ib (tE (ar cy (af (aa 0) (af (aa 1) aq))))) Gh b9)
    (bc (cY (oX 2 [1] (ar dM (af (aa 0) aq)) (gT [0,1]) [] (fIf (tOr (tE (ak oIn (aa 0) (aa 2))) (tE (ak oEq (aa 1) (fC (.int 1))))) (fC (.int 1)) (fC (.int 0)))))))
noncomputable def dR:Fn:=bM 2 5 (aE (aT (gN 2) (ar iA (af (aa 0) (af (ar fH (af (aa 0) (af (aa 1) aq))) aq))))
    (aE (aT (gN 3) (fAt (aa 2) (fC (.int 1))))
    (aE (aT (gN 4) (fAt (aa 2) (fC (.int 2))))
    (aE (sIf (tE (ak oEq (aa 3) (fC (.str [112,97,105,114])))) (bc (gw (af (fC (.str [110,111,116])) (af (gx (aa 4) (pAt (fC (.int (-2)))) pNo) aq)))) b9)
    (aE (sIf (tE (ak oIn (fC (.int 0)) (fAt (aa 4) (fC (.int (-1)))))) (bc (gw (af (fC (.str [110,111,116])) (af (gx (aa 4) (pAt (fC (.int (-1)))) pNo) aq)))) b9)
    (bc (gw (af (fC (.str [116,117,114,110])) (af (gx (aa 4) pNo (pAt (fC (.int (-1))))) aq)))))))))
noncomputable abbrev jO:SF:=(aE (aT (gN 5) (ak kg (ak fj (ak bT (ak bT (ak bT (aa 2) (ak fj (fC (.int 31)) (aa 1))) (ak fj (aa 4) (aa 4))) (fC (.int 7))) (fC (.int 48271))) (fC (.int 2147483629))))
    (aE (aT (gN 5) (ak kg (ak fj (ak bT (aa 5) (fC (.int 5))) (ak bT (ak bT (aa 5) (aa 4)) (fC (.int 3)))) (fC (.int 2147483587))))
    (aE (aT (gN 5) (ak kg (ak fj (ak bT (aa 5) (aa 1)) (fC (.int 69621))) (fC (.int 2147483563))))
    (aT (gN 3) (ak bT (ak fj (aa 3) (fC (.int 2147483563))) (ak kg (ak fj (aa 5) (ak bT (aa 5) (fC (.int 11)))) (fC (.int 2147483549))))))))
noncomputable def gf:Fn:=bM 2 6 (aE (aT (gN 2) (fC (.int 11)))
    (aE (sIf (tE (ak oGt (cX (lOf (aa 0))) (fC (.int 0)))) (aT (gN 2) (ak kg (fAt (aa 0) (ak kg (aa 1) (cX (lOf (aa 0))))) (fC (.int 2147483647)))) b9)
    (aE (aT (gN 3) (fC (.int 0)))
    (aE (iU (bm (fC (.int 9))) (gN 4) jO)
    (bc (aa 3))))))
noncomputable def bB:Fn:=bM 2 2 (aE (sIf (iX (tE (ak oLt (aa 1) (cX (lOf (aa 0))))) (tE (ak oEq (ak kg (fAt (aa 0) (fC (.int 0))) (fC (.int 2))) (fC (.int 0))))) (bc (fAt (aa 0) (aa 1))) b9)
    (bc (ar gf (af (aa 0) (af (aa 1) aq)))))
noncomputable def aw:Fn:=bM 2 3 (aE (aT (gN 2) (ak kg (fAt (aa 0) (fC (.int 0))) (aa 1)))
    (aE (Kh (aa 0) (fC (.int 0)) (ak IO (fAt (aa 0) (fC (.int 0))) (aa 1)))
    (bc (aa 2))))
noncomputable def cV:Fn:=bM 2 3 (aE (sIf (tE (ak oEq (aa 1) (fC (.int 0)))) (aE (aT (gN 2) (ar aw (af (aa 0) (af (fC (.int 800)) aq))))
    (bc (ak fj (aa 2) (wp (ak oLt (aa 2) (fC (.int 401))))))) b9)
    (aE (sIf (tE (ak oEq (aa 1) (fC (.int 1)))) (bc (fIx (af (fC (.int 0)) (af (fC (.int 0)) (af (fC (.int 0)) (af (fC (.int 0)) (af (fC (.int 0)) (af (fC (.int 1)) (af (fC (.int 1)) (af (fC (.int 2)) (af (fC (.int 3)) aq))))))))) (ar aw (af (aa 0) (af (fC (.int 9)) aq))))) b9)
    (bc (fIx (af (fC (.int 0)) (af (fC (.int 0)) (af (fC (.int 0)) (af (fC (.int 1)) aq)))) (ar aw (af (aa 0) (af (fC (.int 4)) aq)))))))
noncomputable def eU:Fn:=bM 2 3 (aE (aT (gN 2) (ar aw (af (aa 0) (af (fC (.int 6)) aq))))
    (aE (sIf (tE (ak oLt (aa 2) (fC (.int 2)))) (bc (aa 1)) b9)
    (aE (sIf (tE (ak oEq (aa 2) (fC (.int 2)))) (bc (ak bT (ak ig (aa 1) (fC (.int 3))) (ar aw (af (aa 0) (af (fC (.int 7)) aq))))) b9)
    (aE (sIf (tE (ak oLt (aa 2) (fC (.int 5)))) (bc (ak ig (ar aw (af (aa 0) (af (ak bT (ak fj (fC (.int 2)) (aa 1)) (fC (.int 5))) aq))) (fC (.int 2)))) b9)
    (bc (ak bT (ak ig (ar aw (af (aa 0) (af (ak ig (ak fj (fC (.int 2)) (ak IP (fC (.int 10)) (fC (.int 60)))) (fC (.int 1))) aq))) (ak IP (fC (.int 10)) (fC (.int 60)))) (fC (.int 1))))))))
noncomputable abbrev kS:SF:=(aE (gQ (ik (aa 9) (ar eU (af (fAt (aa 3) (aa 5)) (af (kI (bF 2 [] (eW (fAt (aa 4) (aa 5))) (gT [0,1]) [] (aa 1))) aq)))))
    (aE (aT (gN 11) (fIx (af (fC .non) (af (fC .non) (af (fC .non) (af (fC .non) (af (fC .non) (af (fC (.int 0)) (af (fC (.int 1)) aq))))))) (ar aw (af (fAt (aa 3) (aa 5)) (af (fC (.int 7)) aq)))))
    (aE (sIf (iX (tE (ak Gg (aa 11) (fC .non))) (tE (ak oGt (eC (aa 10) (fC .non)) (fC (.int 7))))) (aT (gN 11) (ar aw (af (fAt (aa 3) (aa 5)) (af (fC (.int 2)) aq)))) b9)
    (gQ (ik (aa 10) (aa 11))))))
noncomputable abbrev jo:SF:=(aE (aT (gN 8) (ar cV (af (fAt (aa 3) (aa 5)) (af (aa 6) aq))))
    (sIf (tE (ak oGt (aa 8) (fC (.int 0)))) (aE (gQ (ik (fAt (aa 4) (aa 5)) (gw (af (aa 7) (af (aa 8) aq)))))
    (gQ (ik (fAt (aa 4) (aa 7)) (gw (af (aa 5) (af (aa 8) aq)))))) b9))
noncomputable abbrev kT:SF:=(aE (aT (gN 6) (ar aw (af (fAt (aa 3) (aa 5)) (af (fC (.int 3)) aq))))
    (iU (bm (aa 5)) (gN 7) jo))
noncomputable def iC:Fn:=bM 1 12 (aE (aT (gN 1) (cj (af (ak IO (ar bB (af (aa 0) (af (fC (.int 0)) aq))) (fC (.int 2))) aq)))
    (aE (aT (gN 2) (ak bT (fC (.int 1)) (ar aw (af (aa 1) (af (fIx (af (fC (.int 7)) (af (fC (.int 7)) (af (fC (.int 12)) (af (fC (.int 30)) aq)))) (ar aw (af (aa 1) (af (fC (.int 4)) aq)))) aq)))))
    (aE (aT (gN 3) (cj (bF 1 [0] (bm (aa 2)) (gN 0) [] (cj (af (ar bB (af (aa 1) (af (ak bT (fC (.int 1)) (aa 0)) aq))) aq)))))
    (aE (aT (gN 4) (cj (bF 1 [] (bm (aa 2)) (gN 0) [] (cj aq))))
    (aE (iU (bm (aa 2)) (gN 5) kT)
    (aE (aT (gN 9) (cj aq))
    (aE (aT (gN 10) (cj aq))
    (aE (iU (bm (aa 2)) (gN 5) kS)
    (bc (gw (af (gw (af (cY (bF 1 [] (eW (aa 4)) (gN 0) [] (cY (lJ (aa 0))))) (af (cY (lOf (aa 9))) (af (cY (lOf (aa 10))) aq)))) (af (aa 3) (af (aa 1) aq)))))))))))))
noncomputable abbrev fg:SF:=(aE (aT (gN 7) (kI (bF 2 [] (eW (fAt (fAt (aa 0) (fC (.int 0))) (aa 6))) (gT [0,1]) [] (aa 1))))
    (aE (aT (gN 8) (ak ig (ak fj (fC (.int 2)) (ar aw (af (fAt (aa 1) (aa 6)) (af (ak bT (aa 7) (fC (.int 1))) aq)))) (fC (.int 1))))
    (aE (gQ (ik (aa 4) (fIx (af (fC (.int 0)) (af (aa 7) (af (aa 8) aq))) (aa 3))))
    (aE (aT (gN 9) (fAt (fAt (aa 0) (fC (.int 2))) (aa 6)))
    (aE (sIf (tE (ak oEq (aa 9) (fC (.int 0)))) (aT (gN 9) (fIx (af (fC .non) (af (fC (.int 1)) aq)) (wp (ak oGt (ak bT (eC (aa 5) (fC .non)) (fF (eR (fAt (aa 0) (fC (.int 2))) (pAt (aa 6)) pNo) (fC .non))) (fC (.int 7)))))) b9)
    (gQ (ik (aa 5) (aa 9))))))))
noncomputable def gh:Fn:=bM 3 10 (aE (aT (gN 3) (ar aw (af (aa 2) (af (fC (.int 3)) aq))))
    (aE (sIf (tE (ak oEq (aa 3) (fC (.int 0)))) (bc (aa 0)) b9)
    (aE (aT (gN 4) (cj aq))
    (aE (aT (gN 5) (cj aq))
    (aE (iU (bm (cX (lOf (aa 1)))) (gN 6) fg)
    (bc (gw (af (fAt (aa 0) (fC (.int 0))) (af (cY (lOf (aa 4))) (af (cY (lOf (aa 5))) aq))))))))))
noncomputable abbrev jP:SF:=(aE (aT (gN 6) (ak bT (fC (.int 1)) (ak fj (aa 2) (aa 5))))
    (aE (gQ (ik (fAt (aa 4) (aa 5)) (gw (af (ak kg (ak bT (aa 5) (fC (.int 1))) (aa 1)) (af (aa 6) aq)))))
    (gQ (ik (fAt (aa 4) (ak kg (ak bT (aa 5) (fC (.int 1))) (aa 1))) (gw (af (aa 5) (af (aa 6) aq)))))))
noncomputable def gj:Fn:=bM 1 8 (aE (aT (gN 1) (ak bT (fC (.int 3)) (ar aw (af (aa 0) (af (fC (.int 28)) aq)))))
    (aE (aT (gN 2) (ar aw (af (aa 0) (af (fC (.int 2)) aq))))
    (aE (aT (gN 3) (ar aw (af (aa 0) (af (fC (.int 2)) aq))))
    (aE (aT (gN 4) (cj (bF 1 [] (bm (aa 1)) (gN 0) [] (cj aq))))
    (aE (iU (bm (ak bT (ak ig (aa 1) (fC (.int 1))) (aa 3))) (gN 5) jP)
    (aE (aT (gN 7) (cj (bF 1 [] (eW (aa 4)) (gN 0) [] (kI (bF 2 [] (eW (aa 0)) (gT [0,1]) [] (aa 1))))))
    (aE (sIf (tE (ak oGt (ar aw (af (aa 0) (af (fC (.int 3)) aq))) (fC (.int 0)))) (aT (gN 7) (cj (bF 1 [] (eW (aa 4)) (gN 0) [] (fC (.int 1))))) b9)
    (bc (gw (af (cY (bF 1 [] (eW (aa 4)) (gN 0) [] (cY (jb (aa 0))))) (af (cY (lOf (aa 7))) (af (ak Bd (gw (af (fC .non) aq)) (aa 1)) aq))))))))))))
noncomputable abbrev l8:SF:=(sIf (iX (tE (ak oEq (ar aw (af (fAt (aa 1) (aa 3)) (af (fC (.int 2)) aq))) (fC (.int 1)))) (tE (ak oNe (fAt (fAt (aa 0) (fC (.int 2))) (aa 3)) (fC (.int 0))))) (gQ (ik (aa 2) (aa 3))) b9)
noncomputable def ei:Fn:=bM 2 4 (aE (aT (gN 2) (cj aq))
    (aE (iU (bm (cX (lOf (aa 1)))) (gN 3) l8)
    (bc (aa 2))))
noncomputable abbrev sN:SF:=(sIf (tOr (tE (ak lI (fC (.int 0)) (fAt (aa 4) (aa 5)))) (tE (ak oNe (ar ge (af (aa 0) (af (fAt (aa 4) (aa 5)) aq))) (fAt (aa 4) (ak bT (aa 5) (fC (.int 1))))))) (bc (fC (.bl false))) b9)
noncomputable def g9:Fn:=bM 3 6 (aE (aT (gT [3,4]) (aa 2))
    (aE (sIf (tE (ak oEq (aa 3) (fC (.str [110,111,116])))) (aE (sIf (tE (ak oEq (cX (lOf (aa 4))) (fC (.int 1)))) (bc (fT (iX (tE (ak oEq (ar ge (af (aa 0) (af (fAt (aa 4) (fC (.int 0))) aq))) (fAt (aa 4) (fC (.int 0))))) (tE (ak oIn (fC (.int 0)) (fAt (aa 4) (fC (.int 0)))))))) b9)
    (aE (sIf (tOr (tE (ak oNe (cX (lOf (aa 4))) (fC (.int 2)))) (tE (ak oEq (fAt (aa 4) (fC (.int 0))) (fAt (aa 4) (fC (.int 1)))))) (bc (fC (.bl false))) b9)
    (bc (fT (iX (tE (ak oEq (ar ge (af (aa 0) (af (fAt (aa 4) (fC (.int 0))) aq))) (fAt (aa 4) (fC (.int 1))))) (tE (ak oEq (ar ge (af (aa 0) (af (fAt (aa 4) (fC (.int 1))) aq))) (fAt (aa 4) (fC (.int 0)))))))))) b9)
    (aE (sIf (tOr (tE (ak oNe (aa 3) (fC (.str [116,117,114,110])))) (tOr (tE (ak oNe (fAt (aa 4) (fC (.int 0))) (ar fH (af (aa 0) (af (aa 1) aq))))) (tE (ak oIn (fC (.int 0)) (fAt (aa 4) (fC (.int (-1)))))))) (bc (fC (.bl false))) b9)
    (aE (iU (bm (ak ig (cX (lOf (aa 4))) (fC (.int 1)))) (gN 5) sN)
    (bc (ak oEq (ar ge (af (aa 0) (af (fAt (aa 4) (fC (.int (-1)))) aq))) (fAt (aa 4) (fC (.int (-1))))))))))
noncomputable abbrev pz:SF:=(aE (aT (gN 3) (fAt (aa 1) (yM (aa 2) (ak ig (cX (lOf (aa 1))) (fC (.int 1))))))
    (sIf (tE (ak oGt (cX (bF 1 [3,0,2] (bm (cX (lOf (aa 3)))) (gN 0) [(tE (ak oGt (fAt (fAt (aa 2) (aa 3)) (aa 0)) (fAt (aa 1) (aa 0))))] (aa 0))) (fC (.int 0)))) (bc (fC (.bl false))) b9))
noncomputable def hJ:Fn:=bM 2 4 (aE (sIf (tE (ak oGt (cX (lOf (aa 1))) (cX (lOf (aa 0))))) (bc (fC (.bl false))) b9)
    (aE (iU (bm (cX (lOf (aa 0)))) (gN 2) pz)
    (bc (fC (.bl true)))))
noncomputable abbrev zh:SF:=(aT (gT [1,2,3]) (ar iC (af (aa 0) aq)))
noncomputable abbrev EB:SF:=(aT (gN 4) (ar gh (af (aa 1) (af (aa 2) (af (aa 3) aq)))))
noncomputable abbrev EC:SF:=(sIf (tE (ak oEq (ar aw (af (aa 3) (af (fC (.int 4)) aq))) (fC (.int 1)))) (aE (aT (gN 4) (ar gj (af (cj (af (ar bB (af (aa 0) (af (fC (.int 33)) aq))) aq)) aq)))
    (aT (gN 2) (cj (bF 1 [0] (bm (cX (lOf (fAt (aa 4) (fC (.int 0)))))) (gN 0) [] (cj (af (ar bB (af (aa 1) (af (ak bT (fC (.int 1)) (aa 0)) aq))) aq)))))) b9)
noncomputable abbrev zj:SF:=(aT (gN 5) (ar ei (af (aa 4) (af (aa 2) aq))))
noncomputable abbrev ED:SF:=(sIf (tE (ak oEq (ar aw (af (aa 3) (af (fC (.int 3)) aq))) (fC (.int 1)))) (aT (gN 5) (gx (cj (bF 1 [4] (bm (cX (lOf (aa 2)))) (gN 0) [(tE (ak oNe (fAt (fAt (aa 1) (fC (.int 2))) (aa 0)) (fC (.int 0))))] (aa 0))) pNo (pAt (fC (.int 1))))) b9)
noncomputable abbrev zk:SF:=(aT (gN 6) (cj (pb (sx (aa 5) (ar ei (af (aa 4) (af (aa 2) aq)))))))
noncomputable abbrev zm:SF:=(aT (gN 7) (cj (bF 1 [4] (bm (cX (lOf (aa 2)))) (gN 0) [(tE (ak oNe (fAt (fAt (aa 1) (fC (.int 2))) (aa 0)) (fC (.int 0))))] (aa 0))))
noncomputable abbrev zn:SF:=(aT (gN 8) (cj (bF 1 [4] (eW (gw (af (aa 5) (af (aa 6) (af (aa 7) aq))))) (gN 0) [] (ar dR (af (aa 1) (af (aa 0) aq))))))
noncomputable abbrev EE:SF:=(sIf (ib (tE (ar g9 (af (aa 4) (af (aa 9) (af (aa 10) aq)))))) (bc (fC (.bl false))) b9)
noncomputable abbrev zo:SF:=(wH (gw (af (aa 5) (af (aa 6) (af (aa 7) aq)))) (aa 8) (gT [9,10]) EE)
noncomputable abbrev EG:SF:=(sIf (tE (ak oEq (fAt (fAt (aa 8) (aa 11)) (fC (.int 0))) (fC (.str [116,117,114,110])))) (sIf (tOr (tE (ak oNe (fAt (fAt (aa 8) (ak bT (aa 11) (fC (.int 1)))) (fC (.int 0))) (fC (.str [116,117,114,110])))) (ib (tE (ar hJ (af (fAt (fAt (aa 8) (aa 11)) (fC (.int 1))) (af (fAt (fAt (aa 8) (ak bT (aa 11) (fC (.int 1)))) (fC (.int 1))) aq)))))) (bc (fC (.bl false))) b9) b9)
noncomputable abbrev zp:SF:=(iU (bm (fC (.int 2))) (gN 11) EG)
noncomputable abbrev Bq:SF:=(bc (fC (.bl true)))
noncomputable def Br:Fn:=bM 1 12 (aE zh (aE EB (aE EC (aE zj (aE ED (aE zk (aE zm (aE zn (aE zo (aE zp Bq))))))))))
end Fm
set_option Elab.async false
set_option linter.all false
set_option maxRecDepth 100000
set_option maxHeartbeats 4000000
namespace Fm
open PySem PySem.Spec L2
section
abbrev dE (i : Nat) : Stmt := PySem.Challenge.pw_followmost_k33_whole_more_people_turn_al.main.body.getD i (.Pass ⟨0, 0, 0, 0⟩)
abbrev eI:Stmt:=dE 5
abbrev dm:Stmt:=dE 6
abbrev dq:Stmt:=dE 7
abbrev fL:Stmt:=dE 9
abbrev fM:Stmt:=dE 10
abbrev hU:Stmt:=dE 11
abbrev fN:Stmt:=dE 12
abbrev eJ:Stmt:=dE 13
abbrev dS:Stmt:=dE 14
abbrev l9:Stmt:=dE 16
abbrev c8:Stmt:=dE 18
abbrev fO:Stmt:=dE 19
abbrev fP:Stmt:=dE 20
abbrev fQ:Stmt:=dE 21
abbrev ma:Stmt:=dE 17
abbrev jQ:Stmt:=dE 23
abbrev cz:Stmt:=dE 28
abbrev cA:Stmt:=dE 27
abbrev jR:Stmt:=dE 25
abbrev dU:Stmt:=dE 26
abbrev dW:Stmt:=dE 30
abbrev dX:Stmt:=dE 31
abbrev du:Stmt:=dE 32
abbrev c9:Stmt:=dE 33
abbrev eK:Stmt:=dE 34
abbrev eL:Stmt:=dE 35
abbrev da:Stmt:=dE 36
abbrev dY:Stmt:=dE 37
abbrev dZ:Stmt:=dE 38
abbrev d0:Stmt:=dE 39
abbrev dv:Stmt:=dE 40
abbrev kU:Stmt:=dE 41
variable {P:Program} {w:World} {K:PySem.W.Frag} {mg:Str→Option Value} {base:Heap} {f:Addr} {fd:FuncData}
theorem wW:aY ["thing"] ["thing"] (aj eI):=⟨rfl,rfl,rfl,by decide +kernel,rfl,by decide +kernel,by decide +kernel⟩
theorem wX (F:Fun K "is_whole" "is_whole" eI f fd) (bV:mg "isinstance" = none) (zI:mg "bool" = none) (kX:mg "int" = none):cE P w K mg base CX0 1 f fd ["thing"] (spF K eG 1):=by
  refine cf F wW fun cdv A outer s H E hr => ?_
  have hu:=dB hr
  exact (am (aG (MB.me (oP (jV (om (t:=.int) rfl bV rfl kX (by decide +kernel) (mv 0))) (oO (IT (jV (om (t:=.bool) rfl bV rfl zI (by decide +kernel) (mv 0)))))))))
theorem qD:aY ["thing", "least", "most"] ["thing", "least", "most"] (aj dm):=⟨rfl,rfl,rfl,by decide +kernel,rfl,by decide +kernel,by decide +kernel⟩
theorem qE (F:Fun K "is_between" "is_between" dm f fd) (kw:Def P w K mg base "is_whole" 1 1 eG):cE P w K mg base CX0 2 f fd ["thing", "least", "most"] (spF K cC 3):=by
  refine cf F qD fun cdv A outer s H E hr => ?_
  have hu:=dB hr
  exact (am (aG (MB.me (oP (jV (ao kw (hr.mono (by decide)) rfl (ae (mv 0) al) ap)) (oO (jV (DO HK HK jU jU (mv 1) (mv 0) (mv 2))))))))
theorem qF:aY ["thing"] ["thing"] (aj dq):=⟨rfl,rfl,rfl,by decide +kernel,rfl,by decide +kernel,by decide +kernel⟩
theorem qG (F:Fun K "is_opinion" "is_opinion" dq f fd) (ek:Def P w K mg base "is_between" 2 3 cC):cE P w K mg base CX0 3 f fd ["thing"] (spF K cU 1):=by
  refine cf F qF fun cdv A outer s H E hr => ?_
  have hu:=dB hr
  exact (am (aG (ao ek (hr.mono (by decide)) rfl (ae (mv 0) (ae ag (ae ag al))) ap)))
theorem zq:aY ["web"] ["web"] (aj fL):=⟨rfl,rfl,rfl,by decide +kernel,rfl,by decide +kernel,by decide +kernel⟩
theorem zr (F:Fun K "many_of" "many_of" fL f fd) (bx:mg "len" = none):cE P w K mg base CX0 1 f fd ["web"] (spF K cw 1):=by
  refine cf F zq fun cdv A outer s H E hr => ?_
  have hu:=dB hr
  exact (am (aG (cF rfl bx (cQ (aF (mv 0) ag (fun _ _=>rfl))))))
theorem zu:aY ["web", "person"] ["web", "person"] (aj fM):=⟨rfl,rfl,rfl,by decide +kernel,rfl,by decide +kernel,by decide +kernel⟩
theorem zv (F:Fun K "ties_of" "ties_of" fM f fd):cE P w K mg base CX0 1 f fd ["web", "person"] (spF K gW 2):=by
  refine cf F zu fun cdv A outer s H E hr => ?_
  have hu:=dB hr
  exact (am (aG (aF (aF (mv 0) ag (fun _ _=>rfl)) (mv 1) (fun _ _=>rfl))))
theorem Cz:aY ["web", "person"] ["web", "person"] (aj hU):=⟨rfl,rfl,rfl,by decide +kernel,rfl,by decide +kernel,by decide +kernel⟩
theorem CA (F:Fun K "bar_of" "bar_of" hU f fd):cE P w K mg base CX0 1 f fd ["web", "person"] (spF K gX 2):=by
  refine cf F Cz fun cdv A outer s H E hr => ?_
  have hu:=dB hr
  exact (am (aG (aF (aF (mv 0) ag (fun _ _=>rfl)) (mv 1) (fun _ _=>rfl))))
theorem zw:aY ["web", "person"] ["web", "person"] (aj fN):=⟨rfl,rfl,rfl,by decide +kernel,rfl,by decide +kernel,by decide +kernel⟩
theorem zx (F:Fun K "stay_of" "stay_of" fN f fd):cE P w K mg base CX0 1 f fd ["web", "person"] (spF K cM 2):=by
  refine cf F zw fun cdv A outer s H E hr => ?_
  have hu:=dB hr
  exact (am (aG (aF (aF (mv 0) ag (fun _ _=>rfl)) (mv 1) (fun _ _=>rfl))))
theorem wY:aY ["web"] ["web"] (aj eJ):=⟨rfl,rfl,rfl,by decide +kernel,rfl,by decide +kernel,by decide +kernel⟩
theorem wZ (F:Fun K "stays_of" "stays_of" eJ f fd) (mz:mg "list" = none):cE P w K mg base CX0 1 f fd ["web"] (spF K dM 1):=by
  refine cf F wY fun cdv A outer s H E hr => ?_
  have hu:=dB hr
  exact (am (aG (dJ (Gq rfl mz (cQ (aF (mv 0) ag (fun _ _=>rfl)))))))
theorem uq:aY ["web", "thing"] ["web", "thing"] (aj dS):=⟨rfl,rfl,rfl,by decide +kernel,rfl,by decide +kernel,by decide +kernel⟩
theorem ur (F:Fun K "is_person" "is_person" dS f fd) (ek:Def P w K mg base "is_between" 2 3 cC) (eM:Def P w K mg base "many_of" 1 1 cw):cE P w K mg base CX0 3 f fd ["web", "thing"] (spF K eZ 2):=by
  refine cf F uq fun cdv A outer s H E hr => ?_
  have hu:=dB hr
  exact (am (aG (ao ek (hr.mono (by decide)) rfl (ae (mv 1) (ae ag (ae (aP fS oM (ao eM (hr.mono (by decide)) rfl (ae (mv 0) al) ap) ag) al))) ap)))
theorem ot:aY ["web", "thing", "person", "opinion", "stay"] ["web", "thing"] (aj l9):=⟨rfl,rfl,rfl,by decide +kernel,rfl,by decide +kernel,by decide +kernel⟩
theorem GU (F:Fun K "fits" "fits" l9 f fd) (d8:mg "enumerate" = none) (bx:mg "len" = none) (bV:mg "isinstance" = none) (bE:mg "tuple" = none) (eO:Def P w K mg base "stay_of" 1 2 cM) (iH:Def P w K mg base "is_opinion" 3 1 cU) (eM:Def P w K mg base "many_of" 1 1 cw):cE P w K mg base CX0 4 f fd ["web", "thing"] (spF K pv 2):=by
  refine cf F ot fun cdv A outer s H E hr => ?_
  have hu:=dB hr
  exact (ah (bR (MW.mt (oN (i5 (i4 (om (t:=.tuple) rfl bV rfl bE (by decide +kernel) (mv 1)))) (gB (aU (fm hu) iN (cF rfl bx (cQ (mv 1))) (ao eM (hr.mono (by decide)) rfl (ae (mv 0) al) ap) (aJ _)) (.inr rfl)))) (am (aG fY)) aZ)
    (ah (fZ PassesOwn.never rfl (Gs rfl d8 (mv 1)) (iq rfl (bG (aH (i:=2) ot.nd rfl (by first|exact .inl rfl|exact .inr rfl)) (bG (aH (i:=3) ot.nd rfl (by first|exact .inl rfl|exact .inr rfl)) fD))) (ah (bR (i5 (i4 (ao iH (hr.mono (by decide)) rfl (ae (mv 3) al) ap))) (am (aG fY)) aZ)
    (ah (aV (i:=4) ot.nd rfl (by first|exact .inl rfl|exact .inr rfl) (ao eO (hr.mono (by decide)) rfl (ae (mv 0) (ae (mv 2) al)) ap))
    (am (bR (MW.mt (tR (aU AX sn (mv 4) eD (aJ _)) (gB (aU (fm hu) iN (mv 3) (mv 4) (aJ _)) (.inl rfl)))) (am (aG fY)) aZ)))))
    (am (aG fY))))
theorem pA:aY ["web", "thing"] ["web", "thing"] (aj c8):=⟨rfl,rfl,rfl,by decide +kernel,rfl,by decide +kernel,by decide +kernel⟩
theorem pB (F:Fun K "check_stand" "check_stand" c8 f fd) (zJ:Def P w K mg base "fits" 4 2 pv):cE P w K mg base CX0 5 f fd ["web", "thing"] (spF K cg 2):=by
  refine cf F pA fun cdv A outer s H E hr => ?_
  have hu:=dB hr
  exact (am (bR (i5 (i4 (ao zJ (hr.mono (by decide)) rfl (ae (mv 0) (ae (mv 1) al)) ap))) (am DR) aZ))
theorem zy:aY ["web", "stand", "person"] ["web", "stand", "person"] (aj fO):=⟨rfl,rfl,rfl,by decide +kernel,rfl,by decide +kernel,by decide +kernel⟩
theorem zA (F:Fun K "pull_at" "pull_at" fO f fd) (iP:mg "sum" = none) (mB:Def P w K mg base "ties_of" 1 2 gW):cE P w K mg base CX0 2 f fd ["web", "stand", "person"] (spF K fK 3):=by
  refine cf F zy fun cdv A outer s H E hr => ?_
  have hu:=dB hr
  exact (am (aG (aP eB eE ag (tU rfl rfl iP (eF (ef (own:=["other", "weight"]) (capn:=["stand"]) (caps:=[1]) rfl (bI.mk' rfl (by decide +kernel) (by decide +kernel) (by repeat' (first|exact aK.nil|refine aK.cons (by first|exact (fun _=>.inl rfl)|exact (fun _=>.inr rfl)|(intro z;cases z;done)) ?_)) (bp.cons rfl rfl bp.nil)) (gC (ao mB (hr.mono (by decide)) rfl (ae (mv 0) (ae (mv 2) al)) ap))
      (fun cl C s H ex=>⟨(iq rfl (bG (aH (i:=0) (show ((["other", "weight"] : List Str)++(["stand"] : List Str)).Nodup by decide +kernel) rfl (by first|exact .inl rfl|exact .inr rfl)) (bG (aH (i:=1) (show ((["other", "weight"] : List Str)++(["stand"] : List Str)).Nodup by decide +kernel) rfl (by first|exact .inl rfl|exact .inr rfl)) fD))),(oj (aU (cr hu) dy (aF (mv 2) (mv 0) (fun _ _=>rfl)) ag (aJ _))),(mv 1)⟩)))))))
theorem iD:aY ["web", "stand", "person", "stay", "strength", "bar"] ["web", "stand", "person"] (aj fP):=⟨rfl,rfl,rfl,by decide +kernel,rfl,by decide +kernel,by decide +kernel⟩
theorem zB (F:Fun K "next_at" "next_at" fP f fd) (pL:Def P w K mg base "bar_of" 1 2 gX) (mC:Def P w K mg base "pull_at" 2 3 fK) (eO:Def P w K mg base "stay_of" 1 2 cM):cE P w K mg base CX0 3 f fd ["web", "stand", "person"] (spF K eH 3):=by
  refine cf F iD fun cdv A outer s H E hr => ?_
  have hu:=dB hr
  exact (ah (aV (i:=3) iD.nd rfl (by first|exact .inl rfl|exact .inr rfl) (ao eO (hr.mono (by decide)) rfl (ae (mv 0) (ae (mv 2) al)) ap))
    (ah (bR (aU AX sn (mv 3) eD (aJ _)) (am (aG (mv 3))) aZ)
    (ah (aV (i:=4) iD.nd rfl (by first|exact .inl rfl|exact .inr rfl) (ao mC (hr.mono (by decide)) rfl (ae (mv 0) (ae (mv 1) (ae (mv 2) al))) ap))
    (ah (aV (i:=5) iD.nd rfl (by first|exact .inl rfl|exact .inr rfl) (ao pL (hr.mono (by decide)) rfl (ae (mv 0) (ae (mv 2) al)) ap))
    (ah (bR (aU (cr hu) dy (mv 4) (mv 5) (aJ _)) (am (aG (aF (mv 1) (mv 2) (fun _ _=>rfl)))) aZ)
    (am (aG (DN (aU kF jU (mv 4) (mv 5) (aJ _)) ag ag))))))))
theorem zC:aY ["web", "stand"] ["web", "stand"] (aj fQ):=⟨rfl,rfl,rfl,by decide +kernel,rfl,by decide +kernel,by decide +kernel⟩
theorem zD (F:Fun K "turn_at" "turn_at" fQ f fd) (bE:mg "tuple" = none) (aM:mg "range" = none) (eM:Def P w K mg base "many_of" 1 1 cw) (mD:Def P w K mg base "next_at" 3 3 eH):cE P w K mg base CX0 4 f fd ["web", "stand"] (spF K cN 2):=by
  refine cf F zC fun cdv A outer s H E hr => ?_
  have hu:=dB hr
  exact (am (aG (ee rfl bE (eF (ef (own:=["person"]) (capn:=["web", "stand"]) (caps:=[0,1]) rfl (bI.mk' rfl (by decide +kernel) (by decide +kernel) (by repeat' (first|exact aK.nil|refine aK.cons (by first|exact (fun _=>.inl rfl)|exact (fun _=>.inr rfl)|(intro z;cases z;done)) ?_)) (bp.cons rfl rfl (bp.cons rfl rfl bp.nil))) (bH rfl aM (ao eM (hr.mono (by decide)) rfl (ae (mv 0) al) ap))
      (fun cl C s H ex=>⟨(aH (i:=0) (show ((["person"] : List Str)++(["web", "stand"] : List Str)).Nodup by decide +kernel) rfl (by first|exact .inl rfl|exact .inr rfl)),cH,(ao mD (hr.mono (by decide)) rfl (ae (mv 1) (ae (mv 2) (ae (mv 0) al))) ap)⟩))))))
theorem GV:aY ["web", "stand"] ["web", "stand"] (aj ma):=⟨rfl,rfl,rfl,by decide +kernel,rfl,by decide +kernel,by decide +kernel⟩
theorem GW (F:Fun K "turn" "turn" ma f fd) (eP:Def P w K mg base "turn_at" 4 2 cN) (dG:Def P w K mg base "check_stand" 5 2 cg):cE P w K mg base CX0 6 f fd ["web", "stand"] (spF K ge 2):=by
  refine cf F GV fun cdv A outer s H E hr => ?_
  have hu:=dB hr
  exact (ah (dH (ao dG (hr.mono (by decide)) rfl (ae (mv 0) (ae (mv 1) al)) ap))
    (am (aG (ao eP (hr.mono (by decide)) rfl (ae (mv 0) (ae (mv 1) al)) ap))))
theorem jp:aY ["web", "stand", "stands", "later", "word"] ["web", "stand"] (aj jQ):=⟨rfl,rfl,rfl,by decide +kernel,rfl,by decide +kernel,by decide +kernel⟩
theorem EH (F:Fun K "ended" "ended" jQ f fd) (bx:mg "len" = none) (eP:Def P w K mg base "turn_at" 4 2 cN) (dG:Def P w K mg base "check_stand" 5 2 cg):cE P w K mg base CX0 6 f fd ["web", "stand"] (spF K iA 2):=by
  refine cf F jp fun cdv A outer s H E hr => ?_
  have hu:=dB hr
  exact (ah (dH (ao dG (hr.mono (by decide)) rfl (ae (mv 0) (ae (mv 1) al)) ap))
    (ah (aV (i:=2) jp.nd rfl (by first|exact .inl rfl|exact .inr rfl) (dJ (db (ae (mv 1) (ae (ao eP (hr.mono (by decide)) rfl (ae (mv 0) (ae (mv 1) al)) ap) al)) (fun _ _ _ _ z=>by rw [(aD (aD bO)) _ _ _ _ z];decide))))
    (ah (aV (i:=3) jp.nd rfl (by first|exact .inl rfl|exact .inr rfl) (ao eP (hr.mono (by decide)) rfl (ae (mv 0) (ae (aF (mv 2) ag (fun _ _=>rfl)) al)) ap))
    (ah (DT PassesOwn.never (aU (fm hu) iN (mv 3) (aF (mv 2) eQ (fun _ _=>rfl)) (aJ _)) (ah (dH (gD (mv 2) (mv 3)))
    (am (aV (i:=3) jp.nd rfl (by first|exact .inl rfl|exact .inr rfl) (ao eP (hr.mono (by decide)) rfl (ae (mv 0) (ae (mv 3) al)) ap)))))
    (ah (aV (i:=4) jp.nd rfl (by first|exact .inl rfl|exact .inr rfl) (DN (aU (cr hu) dy (aF (mv 2) eQ (fun _ _=>rfl)) (aF (mv 2) eQ (fun _ _=>rfl)) (aJ _)) (gy [114,101,115,116] rfl) (gy [112,97,105,114] rfl)))
    (am (aG (dI (ae (aP fS oM (cF rfl bx (cQ (mv 2))) ag) (ae (mv 4) (ae (mv 2) al)))))))))))
theorem md:aY ["web", "thing"] ["web", "thing"] (aj cz):=⟨rfl,rfl,rfl,by decide +kernel,rfl,by decide +kernel,by decide +kernel⟩
theorem mf (F:Fun K "may_be_chosen" "may_be_chosen" cz f fd) (eO:Def P w K mg base "stay_of" 1 2 cM) (ju:Def P w K mg base "is_person" 3 2 eZ):cE P w K mg base CX0 4 f fd ["web", "thing"] (spF K bL 2):=by
  refine cf F md fun cdv A outer s H E hr => ?_
  have hu:=dB hr
  exact (am (aG (MB.me (oP (jV (ao ju (hr.mono (by decide)) rfl (ae (mv 0) (ae (mv 1) al)) ap)) (oO (jV (im (fm hu) iN (ao eO (hr.mono (by decide)) rfl (ae (mv 0) (ae (mv 1) al)) ap) ag (aJ _))))))))
theorem mh:aY ["web", "thing"] ["web", "thing"] (aj cA):=⟨rfl,rfl,rfl,by decide +kernel,rfl,by decide +kernel,by decide +kernel⟩
theorem mj (F:Fun K "are_choosable" "are_choosable" cA f fd) (BD:mg "all" = none) (aM:mg "range" = none) (bx:mg "len" = none) (bV:mg "isinstance" = none) (mz:mg "list" = none) (fq:Def P w K mg base "may_be_chosen" 4 2 bL):cE P w K mg base CX0 5 f fd ["web", "thing"] (spF K cy 2):=by
  refine cf F mh fun cdv A outer s H E hr => ?_
  have hu:=dB hr
  exact (ah (bR (i5 (i4 (om (t:=.list) rfl bV rfl mz (by decide +kernel) (mv 1)))) (am (aG fY)) aZ)
    (ah (bR (i5 (i4 (Ea rfl rfl BD (eF (ef (own:=["person"]) (capn:=["web"]) (caps:=[0]) rfl (bI.mk' rfl (by decide +kernel) (by decide +kernel) (by repeat' (first|exact aK.nil|refine aK.cons (by first|exact (fun _=>.inl rfl)|exact (fun _=>.inr rfl)|(intro z;cases z;done)) ?_)) (bp.cons rfl rfl bp.nil)) (gC (mv 1))
      (fun cl C s H ex=>⟨(aH (i:=0) (show ((["person"] : List Str)++(["web"] : List Str)).Nodup by decide +kernel) rfl (by first|exact .inl rfl|exact .inr rfl)),cH,(ao fq (hr.mono (by decide)) rfl (ae (mv 1) (ae (mv 0) al)) ap)⟩)))))) (am (aG fY)) aZ)
    (am (aG (Ea rfl rfl BD (eF (ef (own:=["place"]) (capn:=["thing"]) (caps:=[1]) rfl (bI.mk' rfl (by decide +kernel) (by decide +kernel) (by repeat' (first|exact aK.nil|refine aK.cons (by first|exact (fun _=>.inl rfl)|exact (fun _=>.inr rfl)|(intro z;cases z;done)) ?_)) (bp.cons rfl rfl bp.nil)) (bH rfl aM (aP fS oM (cF rfl bx (cQ (mv 1))) ag))
      (fun cl C s H ex=>⟨(aH (i:=0) (show ((["place"] : List Str)++(["thing"] : List Str)).Nodup by decide +kernel) rfl (by first|exact .inl rfl|exact .inr rfl)),cH,(im wj jU (aF (mv 1) (mv 0) (fun _ _=>rfl)) (aF (mv 1) (aP bo bW (mv 0) ag) (fun _ _=>rfl)) (aJ _))⟩))))))))
theorem EI:aY ["web", "some"] ["web", "some"] (aj jR):=⟨rfl,rfl,rfl,by decide +kernel,rfl,by decide +kernel,by decide +kernel⟩
theorem EJ (F:Fun K "begun" "begun" jR f fd) (bE:mg "tuple" = none) (d8:mg "enumerate" = none) (kx:Def P w K mg base "stays_of" 1 1 dM) (ft:Def P w K mg base "are_choosable" 5 2 cy):cE P w K mg base CX0 6 f fd ["web", "some"] (spF K fH 2):=by
  refine cf F EI fun cdv A outer s H E hr => ?_
  have hu:=dB hr
  exact (ah (bR (i5 (i4 (ao ft (hr.mono (by decide)) rfl (ae (mv 0) (ae (mv 1) al)) ap))) (am DR) aZ)
    (am (aG (ee rfl bE (eF (Ee (own:=["person", "stay"]) (capn:=["some"]) (caps:=[1]) rfl (bI.mk' rfl (by decide +kernel) (by decide +kernel) (by repeat' (first|exact aK.nil|refine aK.cons (by first|exact (fun _=>.inl rfl)|exact (fun _=>.inr rfl)|(intro z;cases z;done)) ?_)) (bp.cons rfl rfl bp.nil)) (Ed rfl d8 (ao kx (hr.mono (by decide)) rfl (ae (mv 0) al) ap))
      (fun cl C s H ex=>⟨(iq rfl (bG (aH (i:=0) (show ((["person", "stay"] : List Str)++(["some"] : List Str)).Nodup by decide +kernel) rfl (by first|exact .inl rfl|exact .inr rfl)) (bG (aH (i:=1) (show ((["person", "stay"] : List Str)++(["some"] : List Str)).Nodup by decide +kernel) rfl (by first|exact .inl rfl|exact .inr rfl)) fD))),cH,(DN (MW.mt (oN (aU jJ Bc (mv 0) (mv 2) rfl) (gB (aU (cr hu) dy (mv 1) ag (aJ _)) (.inr rfl)))) ag ag)⟩)))))))
theorem fI:aY ["web", "some", "end", "word", "stands"] ["web", "some"] (aj dU):=⟨rfl,rfl,rfl,by decide +kernel,rfl,by decide +kernel,by decide +kernel⟩
theorem ut (F:Fun K "turns_all" "turns_all" dU f fd) (uF:Def P w K mg base "ended" 6 2 iA) (kY:Def P w K mg base "begun" 6 2 fH):cE P w K mg base CX0 7 f fd ["web", "some"] (spF K dR 2):=by
  refine cf F fI fun cdv A outer s H E hr => ?_
  have hu:=dB hr
  exact (ah (aV (i:=2) fI.nd rfl (by first|exact .inl rfl|exact .inr rfl) (ao uF (hr.mono (by decide)) rfl (ae (mv 0) (ae (ao kY (hr.mono (by decide)) rfl (ae (mv 0) (ae (mv 1) al)) ap) al)) ap))
    (ah (aV (i:=3) fI.nd rfl (by first|exact .inl rfl|exact .inr rfl) (aF (mv 2) ag (fun _ _=>rfl)))
    (ah (aV (i:=4) fI.nd rfl (by first|exact .inl rfl|exact .inr rfl) (aF (mv 2) ag (fun _ _=>rfl)))
    (ah (bR (aU (cr hu) dy (mv 3) (gy [112,97,105,114] rfl) (aJ _)) (am (aG (dI (ae (gy [110,111,116] rfl) (ae (kM (mv 4) (wB eQ) wA) al))))) aZ)
    (ah (bR (aU jJ Bc ag (aF (mv 4) eQ (fun _ _=>rfl)) rfl) (am (aG (dI (ae (gy [110,111,116] rfl) (ae (kM (mv 4) (wB eQ) wA) al))))) aZ)
    (am (aG (dI (ae (gy [116,117,114,110] rfl) (ae (kM (mv 4) wA (wB eQ)) al))))))))))
theorem ca:aY ["_law_script", "_law_k", "_law_seed", "_law_found", "_law_j", "_law_number"] ["_law_script", "_law_k"] (aj dW):=⟨rfl,rfl,rfl,by decide +kernel,rfl,by decide +kernel,by decide +kernel⟩
theorem uu (F:Fun K "_law_wide" "_law_wide" dW f fd) (aM:mg "range" = none) (bx:mg "len" = none):cE P w K mg base CX0 1 f fd ["_law_script", "_law_k"] (spF K gf 2):=by
  refine cf F ca fun cdv A outer s H E hr => ?_
  have hu:=dB hr
  exact (ah (aV (i:=2) ca.nd rfl (by first|exact .inl rfl|exact .inr rfl) ag)
    (ah (bR (aU kF jU (cF rfl bx (cQ (mv 0))) ag (aJ _)) (am (aV (i:=2) ca.nd rfl (by first|exact .inl rfl|exact .inr rfl) (aP gu gA (aF (mv 0) (aP gu gA (mv 1) (cF rfl bx (cQ (mv 0)))) (fun _ _=>rfl)) ag))) aZ)
    (ah (aV (i:=3) ca.nd rfl (by first|exact .inl rfl|exact .inr rfl) ag)
    (ah (fZ PassesOwn.never rfl (bH rfl aM ag) (aH (i:=4) ca.nd rfl (by first|exact .inl rfl|exact .inr rfl)) (ah (aV (i:=5) ca.nd rfl (by first|exact .inl rfl|exact .inr rfl) (aP gu gA (aP eB eE (aP bo bW (aP bo bW (aP bo bW (mv 2) (aP eB eE ag (mv 1))) (aP eB eE (mv 4) (mv 4))) ag) ag) ag))
    (ah (aV (i:=5) ca.nd rfl (by first|exact .inl rfl|exact .inr rfl) (aP gu gA (aP eB eE (aP bo bW (mv 5) ag) (aP bo bW (aP bo bW (mv 5) (mv 4)) ag)) ag))
    (ah (aV (i:=5) ca.nd rfl (by first|exact .inl rfl|exact .inr rfl) (aP gu gA (aP eB eE (aP bo bW (mv 5) (mv 1)) ag) ag))
    (am (aV (i:=3) ca.nd rfl (by first|exact .inl rfl|exact .inr rfl) (aP bo bW (aP eB eE (mv 3) ag) (aP gu gA (aP eB eE (mv 5) (aP bo bW (mv 5) ag)) ag))))))))
    (am (aG (mv 3)))))))
theorem uv:aY ["_law_script", "_law_k"] ["_law_script", "_law_k"] (aj dX):=⟨rfl,rfl,rfl,by decide +kernel,rfl,by decide +kernel,by decide +kernel⟩
theorem uw (F:Fun K "_law_cell" "_law_cell" dX f fd) (bx:mg "len" = none) (jv:Def P w K mg base "_law_wide" 1 2 gf):cE P w K mg base CX0 2 f fd ["_law_script", "_law_k"] (spF K bB 2):=by
  refine cf F uv fun cdv A outer s H E hr => ?_
  have hu:=dB hr
  exact (ah (bR (MW.mt (tR (aU wj jU (mv 1) (cF rfl bx (cQ (mv 0))) (aJ _)) (gB (aU (cr hu) dy (aP gu gA (aF (mv 0) ag (fun _ _=>rfl)) ag) ag (aJ _)) (.inl rfl)))) (am (aG (aF (mv 0) (mv 1) (fun _ _=>rfl)))) aZ)
    (am (aG (ao jv (hr.mono (by decide)) rfl (ae (mv 0) (ae (mv 1) al)) ap))))
theorem jX:aY ["_law_state", "_law_most", "_law_found"] ["_law_state", "_law_most"] (aj du):=⟨rfl,rfl,rfl,by decide +kernel,rfl,by decide +kernel,by decide +kernel⟩
theorem qH (F:Fun K "_law_digit" "_law_digit" du f fd):cE P w K mg base CX0 1 f fd ["_law_state", "_law_most"] (spF K aw 2):=by
  refine cf F jX fun cdv A outer s H E hr => ?_
  have hu:=dB hr
  exact (ah (aV (i:=2) jX.nd rfl (by first|exact .inl rfl|exact .inr rfl) (aP gu gA (aF (mv 0) ag (fun _ _=>rfl)) (mv 1)))
    (ah (IZ (aP wv DK (aF (mv 0) ag (fun _ _=>rfl)) (mv 1)) (mv 0) ag)
    (am (aG (mv 2)))))
theorem jq:aY ["_law_state", "_law_sort", "_law_number"] ["_law_state", "_law_sort"] (aj c9):=⟨rfl,rfl,rfl,by decide +kernel,rfl,by decide +kernel,by decide +kernel⟩
theorem pC (F:Fun K "_law_weight" "_law_weight" c9 f fd) (kX:mg "int" = none) (ay:Def P w K mg base "_law_digit" 1 2 aw):cE P w K mg base CX0 2 f fd ["_law_state", "_law_sort"] (spF K cV 2):=by
  refine cf F jq fun cdv A outer s H E hr => ?_
  have hu:=dB hr
  exact (ah (bR (aU (cr hu) dy (mv 1) ag (aJ _)) (ah (aV (i:=2) jq.nd rfl (by first|exact .inl rfl|exact .inr rfl) (ao ay (hr.mono (by decide)) rfl (ae (mv 0) (ae ag al)) ap))
    (am (aG (aP eB eE (mv 2) (A4 rfl kX (im wj jU (mv 2) ag (aJ _))))))) aZ)
    (ah (bR (aU (cr hu) dy (mv 1) ag (aJ _)) (am (aG (sr (db (ae ag (ae ag (ae ag (ae ag (ae ag (ae ag (ae ag (ae ag (ae ag al))))))))) (fun _ _ _ _ z=>by rw [(aD (aD (aD (aD (aD (aD (aD (aD (aD bO))))))))) _ _ _ _ z];decide)) (ao ay (hr.mono (by decide)) rfl (ae (mv 0) (ae ag al)) ap) (fun _ _=>rfl)))) aZ)
    (am (aG (sr (db (ae ag (ae ag (ae ag (ae ag al)))) (fun _ _ _ _ z=>by rw [(aD (aD (aD (aD bO)))) _ _ _ _ z];decide)) (ao ay (hr.mono (by decide)) rfl (ae (mv 0) (ae ag al)) ap) (fun _ _=>rfl))))))
theorem nt:aY ["_law_state", "_law_total", "_law_way"] ["_law_state", "_law_total"] (aj eK):=⟨rfl,rfl,rfl,by decide +kernel,rfl,by decide +kernel,by decide +kernel⟩
theorem w5 (F:Fun K "_law_bar" "_law_bar" eK f fd) (ay:Def P w K mg base "_law_digit" 1 2 aw):cE P w K mg base CX0 2 f fd ["_law_state", "_law_total"] (spF K eU 2):=by
  refine cf F nt fun cdv A outer s H E hr => ?_
  have hu:=dB hr
  exact (ah (aV (i:=2) nt.nd rfl (by first|exact .inl rfl|exact .inr rfl) (ao ay (hr.mono (by decide)) rfl (ae (mv 0) (ae ag al)) ap))
    (ah (bR (aU wj jU (mv 2) ag (aJ _)) (am (aG (mv 1))) aZ)
    (ah (bR (aU (cr hu) dy (mv 2) ag (aJ _)) (am (aG (aP bo bW (aP fS oM (mv 1) ag) (ao ay (hr.mono (by decide)) rfl (ae (mv 0) (ae ag al)) ap)))) aZ)
    (ah (bR (aU wj jU (mv 2) ag (aJ _)) (am (aG (aP fS oM (ao ay (hr.mono (by decide)) rfl (ae (mv 0) (ae (aP bo bW (aP eB eE ag (mv 1)) ag) al)) ap) ag))) aZ)
    (am (aG (aP bo bW (aP fS oM (ao ay (hr.mono (by decide)) rfl (ae (mv 0) (ae (aP fS oM (aP eB eE ag (aP Dz DM ag ag)) ag) al)) ap) (aP Dz DM ag ag)) ag)))))))
theorem br:aY ["_law_script", "_law_head", "_law_many", "_law_states", "_law_ties", "_law_k", "_law_sort", "_law_j", "_law_heavy", "_law_bars", "_law_stays", "_law_stay"] ["_law_script"] (aj eL):=⟨rfl,rfl,rfl,by decide +kernel,rfl,by decide +kernel,by decide +kernel⟩
theorem w6 (F:Fun K "_law_web" "_law_web" eL f fd) (bE:mg "tuple" = none) (er:mg "sorted" = none) (aM:mg "range" = none) (iP:mg "sum" = none) (ay:Def P w K mg base "_law_digit" 1 2 aw) (ky:Def P w K mg base "_law_bar" 2 2 eU) (gG:Def P w K mg base "_law_weight" 2 2 cV) (dk:Def P w K mg base "_law_cell" 2 2 bB):cE P w K mg base CX0 3 f fd ["_law_script"] (spF K iC 1):=by
  refine cf F br fun cdv A outer s H E hr => ?_
  have hu:=dB hr
  exact (ah (aV (i:=1) br.nd rfl (by first|exact .inl rfl|exact .inr rfl) (dJ (db (ae (aP wv DK (ao dk (hr.mono (by decide)) rfl (ae (mv 0) (ae ag al)) ap) ag) al) (fun _ _ _ _ z=>by rw [(aD bO) _ _ _ _ z];decide))))
    (ah (aV (i:=2) br.nd rfl (by first|exact .inl rfl|exact .inr rfl) (aP bo bW ag (ao ay (hr.mono (by decide)) rfl (ae (mv 1) (ae (sr (db (ae ag (ae ag (ae ag (ae ag al)))) (fun _ _ _ _ z=>by rw [(aD (aD (aD (aD bO)))) _ _ _ _ z];decide)) (ao ay (hr.mono (by decide)) rfl (ae (mv 1) (ae ag al)) ap) (fun _ _=>rfl)) al)) ap)))
    (ah (gm (i:=3) br.nd rfl (by first|exact .inl rfl|exact .inr rfl) (own:=["_law_k"]) (capn:=["_law_script"]) (caps:=[0]) rfl (bI.mk' rfl (by decide +kernel) (by decide +kernel) (by repeat' (first|exact aK.nil|refine aK.cons (by first|exact (fun _=>.inl rfl)|exact (fun _=>.inr rfl)|(intro z;cases z;done)) ?_)) (bp.cons rfl rfl bp.nil)) (bH rfl aM (mv 2))
      (fun cl C s H ex=>⟨(aH (i:=0) (show ((["_law_k"] : List Str)++(["_law_script"] : List Str)).Nodup by decide +kernel) rfl (by first|exact .inl rfl|exact .inr rfl)),cH,(dJ (db (ae (ao dk (hr.mono (by decide)) rfl (ae (mv 1) (ae (aP bo bW ag (mv 0)) al)) ap) al) (fun _ _ _ _ z=>by rw [(aD bO) _ _ _ _ z];decide)))⟩))
    (ah (gm (i:=4) br.nd rfl (by first|exact .inl rfl|exact .inr rfl) (own:=["_law_k"]) (capn:=[]) (caps:=[]) rfl (bI.mk' rfl (by decide +kernel) (by decide +kernel) (by repeat' (first|exact aK.nil|refine aK.cons (by first|exact (fun _=>.inl rfl)|exact (fun _=>.inr rfl)|(intro z;cases z;done)) ?_)) bp.nil) (bH rfl aM (mv 2))
      (fun cl C s H ex=>⟨(aH (i:=0) (show ((["_law_k"] : List Str)++([] : List Str)).Nodup by decide +kernel) rfl (by first|exact .inl rfl|exact .inr rfl)),cH,(dJ (db al (fun _ _ _ _ z=>by rw [bO _ _ _ _ z];decide)))⟩))
    (ah (fZ PassesOwn.never rfl (bH rfl aM (mv 2)) (aH (i:=5) br.nd rfl (by first|exact .inl rfl|exact .inr rfl)) (ah (aV (i:=6) br.nd rfl (by first|exact .inl rfl|exact .inr rfl) (ao ay (hr.mono (by decide)) rfl (ae (aF (mv 3) (mv 5) (fun _ _=>rfl)) (ae ag al)) ap))
    (am (fZ PassesOwn.never rfl (bH rfl aM (mv 5)) (aH (i:=7) br.nd rfl (by first|exact .inl rfl|exact .inr rfl)) (ah (aV (i:=8) br.nd rfl (by first|exact .inl rfl|exact .inr rfl) (ao gG (hr.mono (by decide)) rfl (ae (aF (mv 3) (mv 5) (fun _ _=>rfl)) (ae (mv 6) al)) ap))
    (am (bR (aU kF jU (mv 8) ag (aJ _)) (ah (dH (gD (aF (mv 4) (mv 5) (fun _ _=>rfl)) (dI (ae (mv 7) (ae (mv 8) al)))))
    (am (dH (gD (aF (mv 4) (mv 7) (fun _ _=>rfl)) (dI (ae (mv 5) (ae (mv 8) al))))))) aZ)))))))
    (ah (aV (i:=9) br.nd rfl (by first|exact .inl rfl|exact .inr rfl) (dJ (db al (fun _ _ _ _ z=>by rw [bO _ _ _ _ z];decide))))
    (ah (aV (i:=10) br.nd rfl (by first|exact .inl rfl|exact .inr rfl) (dJ (db al (fun _ _ _ _ z=>by rw [bO _ _ _ _ z];decide))))
    (ah (fZ PassesOwn.never rfl (bH rfl aM (mv 2)) (aH (i:=5) br.nd rfl (by first|exact .inl rfl|exact .inr rfl)) (ah (dH (gD (mv 9) (ao ky (hr.mono (by decide)) rfl (ae (aF (mv 3) (mv 5) (fun _ _=>rfl)) (ae (tU rfl rfl iP (eF (ef (own:=["_law_other", "_law_heavy"]) (capn:=[]) (caps:=[]) rfl (bI.mk' rfl (by decide +kernel) (by decide +kernel) (by repeat' (first|exact aK.nil|refine aK.cons (by first|exact (fun _=>.inl rfl)|exact (fun _=>.inr rfl)|(intro z;cases z;done)) ?_)) bp.nil) (gC (aF (mv 4) (mv 5) (fun _ _=>rfl)))
      (fun cl C s H ex=>⟨(iq rfl (bG (aH (i:=0) (show ((["_law_other", "_law_heavy"] : List Str)++([] : List Str)).Nodup by decide +kernel) rfl (by first|exact .inl rfl|exact .inr rfl)) (bG (aH (i:=1) (show ((["_law_other", "_law_heavy"] : List Str)++([] : List Str)).Nodup by decide +kernel) rfl (by first|exact .inl rfl|exact .inr rfl)) fD))),cH,(mv 1)⟩)))) al)) ap)))
    (ah (aV (i:=11) br.nd rfl (by first|exact .inl rfl|exact .inr rfl) (sr (db (ae eD (ae eD (ae eD (ae eD (ae eD (ae ag (ae ag al))))))) (fun _ _ _ _ z=>by rw [(aD (aD (aD (aD (aD (aD (aD bO))))))) _ _ _ _ z];decide)) (ao ay (hr.mono (by decide)) rfl (ae (aF (mv 3) (mv 5) (fun _ _=>rfl)) (ae ag al)) ap) (fun _ _=>rfl)))
    (ah (bR (MW.mt (tR (aU IB IS (mv 11) eD (aJ _)) (gB (aU kF jU (wF (mv 10) eD) ag (aJ _)) (.inl rfl)))) (am (aV (i:=11) br.nd rfl (by first|exact .inl rfl|exact .inr rfl) (ao ay (hr.mono (by decide)) rfl (ae (aF (mv 3) (mv 5) (fun _ _=>rfl)) (ae ag al)) ap))) aZ)
    (am (dH (gD (mv 10) (mv 11))))))))
    (am (aG (dI (ae (dI (ae (ee rfl bE (eF (ef (own:=["_law_some_here"]) (capn:=[]) (caps:=[]) rfl (bI.mk' rfl (by decide +kernel) (by decide +kernel) (by repeat' (first|exact aK.nil|refine aK.cons (by first|exact (fun _=>.inl rfl)|exact (fun _=>.inr rfl)|(intro z;cases z;done)) ?_)) bp.nil) (gC (mv 4))
      (fun cl C s H ex=>⟨(aH (i:=0) (show ((["_law_some_here"] : List Str)++([] : List Str)).Nodup by decide +kernel) rfl (by first|exact .inl rfl|exact .inr rfl)),cH,(ee rfl bE (eF (D4 rfl er (mv 0))))⟩)))) (ae (ee rfl bE (cQ (mv 9))) (ae (ee rfl bE (cQ (mv 10))) al)))) (ae (mv 3) (ae (mv 1) al))))))))))))))
theorem bK:aY ["_law_web_here", "_law_states", "_law_head", "_law_way", "_law_bars", "_law_stays", "_law_k", "_law_total", "_law_odd", "_law_stay"] ["_law_web_here", "_law_states", "_law_head"] (aj da):=⟨rfl,rfl,rfl,by decide +kernel,rfl,by decide +kernel,by decide +kernel⟩
theorem pD (F:Fun K "_law_swayed" "_law_swayed" da f fd) (bE:mg "tuple" = none) (aM:mg "range" = none) (bx:mg "len" = none) (kX:mg "int" = none) (iP:mg "sum" = none) (ay:Def P w K mg base "_law_digit" 1 2 aw):cE P w K mg base CX0 2 f fd ["_law_web_here", "_law_states", "_law_head"] (spF K gh 3):=by
  refine cf F bK fun cdv A outer s H E hr => ?_
  have hu:=dB hr
  exact (ah (aV (i:=3) bK.nd rfl (by first|exact .inl rfl|exact .inr rfl) (ao ay (hr.mono (by decide)) rfl (ae (mv 2) (ae ag al)) ap))
    (ah (bR (aU (cr hu) dy (mv 3) ag (aJ _)) (am (aG (mv 0))) aZ)
    (ah (aV (i:=4) bK.nd rfl (by first|exact .inl rfl|exact .inr rfl) (dJ (db al (fun _ _ _ _ z=>by rw [bO _ _ _ _ z];decide))))
    (ah (aV (i:=5) bK.nd rfl (by first|exact .inl rfl|exact .inr rfl) (dJ (db al (fun _ _ _ _ z=>by rw [bO _ _ _ _ z];decide))))
    (ah (fZ PassesOwn.never rfl (bH rfl aM (cF rfl bx (cQ (mv 1)))) (aH (i:=6) bK.nd rfl (by first|exact .inl rfl|exact .inr rfl)) (ah (aV (i:=7) bK.nd rfl (by first|exact .inl rfl|exact .inr rfl) (tU rfl rfl iP (eF (ef (own:=["_law_other", "_law_heavy"]) (capn:=[]) (caps:=[]) rfl (bI.mk' rfl (by decide +kernel) (by decide +kernel) (by repeat' (first|exact aK.nil|refine aK.cons (by first|exact (fun _=>.inl rfl)|exact (fun _=>.inr rfl)|(intro z;cases z;done)) ?_)) bp.nil) (gC (aF (aF (mv 0) ag (fun _ _=>rfl)) (mv 6) (fun _ _=>rfl)))
      (fun cl C s H ex=>⟨(iq rfl (bG (aH (i:=0) (show ((["_law_other", "_law_heavy"] : List Str)++([] : List Str)).Nodup by decide +kernel) rfl (by first|exact .inl rfl|exact .inr rfl)) (bG (aH (i:=1) (show ((["_law_other", "_law_heavy"] : List Str)++([] : List Str)).Nodup by decide +kernel) rfl (by first|exact .inl rfl|exact .inr rfl)) fD))),cH,(mv 1)⟩)))))
    (ah (aV (i:=8) bK.nd rfl (by first|exact .inl rfl|exact .inr rfl) (aP fS oM (aP eB eE ag (ao ay (hr.mono (by decide)) rfl (ae (aF (mv 1) (mv 6) (fun _ _=>rfl)) (ae (aP bo bW (mv 7) ag) al)) ap)) ag))
    (ah (dH (gD (mv 4) (sr (db (ae ag (ae (mv 7) (ae (mv 8) al))) (fun _ _ _ _ z=>by rw [(aD (aD (aD bO))) _ _ _ _ z];decide)) (mv 3) (fun _ _=>rfl))))
    (ah (aV (i:=9) bK.nd rfl (by first|exact .inl rfl|exact .inr rfl) (aF (aF (mv 0) ag (fun _ _=>rfl)) (mv 6) (fun _ _=>rfl)))
    (ah (bR (aU (cr hu) dy (mv 9) ag (aJ _)) (am (aV (i:=9) bK.nd rfl (by first|exact .inl rfl|exact .inr rfl) (sr (db (ae eD (ae ag al)) (fun _ _ _ _ z=>by rw [(aD (aD bO)) _ _ _ _ z];decide)) (A4 rfl kX (im kF jU (aP bo bW (wF (mv 5) eD) (Ca (B8 (aF (mv 0) ag (fun _ _=>rfl)) (wB (mv 6)) wA) eD)) ag (aJ _))) (fun _ _=>rfl)))) aZ)
    (am (dH (gD (mv 5) (mv 9))))))))))
    (am (aG (dI (ae (aF (mv 0) ag (fun _ _=>rfl)) (ae (ee rfl bE (cQ (mv 4))) (ae (ee rfl bE (cQ (mv 5))) al)))))))))))
theorem ce:aY ["_law_head", "_law_many", "_law_rising", "_law_ring", "_law_ties", "_law_k", "_law_heavy", "_law_bars"] ["_law_head"] (aj dY):=⟨rfl,rfl,rfl,by decide +kernel,rfl,by decide +kernel,by decide +kernel⟩
theorem ux (F:Fun K "_law_line" "_law_line" dY f fd) (bE:mg "tuple" = none) (er:mg "sorted" = none) (iP:mg "sum" = none) (aM:mg "range" = none) (ay:Def P w K mg base "_law_digit" 1 2 aw):cE P w K mg base CX0 2 f fd ["_law_head"] (spF K gj 1):=by
  refine cf F ce fun cdv A outer s H E hr => ?_
  have hu:=dB hr
  exact (ah (aV (i:=1) ce.nd rfl (by first|exact .inl rfl|exact .inr rfl) (aP bo bW ag (ao ay (hr.mono (by decide)) rfl (ae (mv 0) (ae ag al)) ap)))
    (ah (aV (i:=2) ce.nd rfl (by first|exact .inl rfl|exact .inr rfl) (ao ay (hr.mono (by decide)) rfl (ae (mv 0) (ae ag al)) ap))
    (ah (aV (i:=3) ce.nd rfl (by first|exact .inl rfl|exact .inr rfl) (ao ay (hr.mono (by decide)) rfl (ae (mv 0) (ae ag al)) ap))
    (ah (gm (i:=4) ce.nd rfl (by first|exact .inl rfl|exact .inr rfl) (own:=["_law_k"]) (capn:=[]) (caps:=[]) rfl (bI.mk' rfl (by decide +kernel) (by decide +kernel) (by repeat' (first|exact aK.nil|refine aK.cons (by first|exact (fun _=>.inl rfl)|exact (fun _=>.inr rfl)|(intro z;cases z;done)) ?_)) bp.nil) (bH rfl aM (mv 1))
      (fun cl C s H ex=>⟨(aH (i:=0) (show ((["_law_k"] : List Str)++([] : List Str)).Nodup by decide +kernel) rfl (by first|exact .inl rfl|exact .inr rfl)),cH,(dJ (db al (fun _ _ _ _ z=>by rw [bO _ _ _ _ z];decide)))⟩))
    (ah (fZ PassesOwn.never rfl (bH rfl aM (aP bo bW (aP fS oM (mv 1) ag) (mv 3))) (aH (i:=5) ce.nd rfl (by first|exact .inl rfl|exact .inr rfl)) (ah (aV (i:=6) ce.nd rfl (by first|exact .inl rfl|exact .inr rfl) (aP bo bW ag (aP eB eE (mv 2) (mv 5))))
    (ah (dH (gD (aF (mv 4) (mv 5) (fun _ _=>rfl)) (dI (ae (aP gu gA (aP bo bW (mv 5) ag) (mv 1)) (ae (mv 6) al)))))
    (am (dH (gD (aF (mv 4) (aP gu gA (aP bo bW (mv 5) ag) (mv 1)) (fun _ _=>rfl)) (dI (ae (mv 5) (ae (mv 6) al)))))))))
    (ah (gm (i:=7) ce.nd rfl (by first|exact .inl rfl|exact .inr rfl) (own:=["_law_some_here"]) (capn:=[]) (caps:=[]) rfl (bI.mk' rfl (by decide +kernel) (by decide +kernel) (by repeat' (first|exact aK.nil|refine aK.cons (by first|exact (fun _=>.inl rfl)|exact (fun _=>.inr rfl)|(intro z;cases z;done)) ?_)) bp.nil) (gC (mv 4))
      (fun cl C s H ex=>⟨(aH (i:=0) (show ((["_law_some_here"] : List Str)++([] : List Str)).Nodup by decide +kernel) rfl (by first|exact .inl rfl|exact .inr rfl)),cH,(tU rfl rfl iP (eF (ef (own:=["_law_other", "_law_heavy"]) (capn:=[]) (caps:=[]) rfl (bI.mk' rfl (by decide +kernel) (by decide +kernel) (by repeat' (first|exact aK.nil|refine aK.cons (by first|exact (fun _=>.inl rfl)|exact (fun _=>.inr rfl)|(intro z;cases z;done)) ?_)) bp.nil) (gC (mv 0))
      (fun cl C s H ex=>⟨(iq rfl (bG (aH (i:=0) (show ((["_law_other", "_law_heavy"] : List Str)++([] : List Str)).Nodup by decide +kernel) rfl (by first|exact .inl rfl|exact .inr rfl)) (bG (aH (i:=1) (show ((["_law_other", "_law_heavy"] : List Str)++([] : List Str)).Nodup by decide +kernel) rfl (by first|exact .inl rfl|exact .inr rfl)) fD))),cH,(mv 1)⟩))))⟩))
    (ah (bR (aU kF jU (ao ay (hr.mono (by decide)) rfl (ae (mv 0) (ae ag al)) ap) ag (aJ _)) (am (gm (i:=7) ce.nd rfl (by first|exact .inl rfl|exact .inr rfl) (own:=["_law_some_here"]) (capn:=[]) (caps:=[]) rfl (bI.mk' rfl (by decide +kernel) (by decide +kernel) (by repeat' (first|exact aK.nil|refine aK.cons (by first|exact (fun _=>.inl rfl)|exact (fun _=>.inr rfl)|(intro z;cases z;done)) ?_)) bp.nil) (gC (mv 4))
      (fun cl C s H ex=>⟨(aH (i:=0) (show ((["_law_some_here"] : List Str)++([] : List Str)).Nodup by decide +kernel) rfl (by first|exact .inl rfl|exact .inr rfl)),cH,ag⟩))) aZ)
    (am (aG (dI (ae (ee rfl bE (eF (ef (own:=["_law_some_here"]) (capn:=[]) (caps:=[]) rfl (bI.mk' rfl (by decide +kernel) (by decide +kernel) (by repeat' (first|exact aK.nil|refine aK.cons (by first|exact (fun _=>.inl rfl)|exact (fun _=>.inr rfl)|(intro z;cases z;done)) ?_)) bp.nil) (gC (mv 4))
      (fun cl C s H ex=>⟨(aH (i:=0) (show ((["_law_some_here"] : List Str)++([] : List Str)).Nodup by decide +kernel) rfl (by first|exact .inl rfl|exact .inr rfl)),cH,(ee rfl bE (eF (D7 rfl er (mv 0))))⟩)))) (ae (ee rfl bE (cQ (mv 7))) (ae (aP Gv Gw (dI (ae eD al)) (mv 1)) al)))))))))))))
theorem iE:aY ["_law_web_here", "_law_states", "_law_found", "_law_k"] ["_law_web_here", "_law_states"] (aj dZ):=⟨rfl,rfl,rfl,by decide +kernel,rfl,by decide +kernel,by decide +kernel⟩
theorem uy (F:Fun K "_law_some" "_law_some" dZ f fd) (aM:mg "range" = none) (bx:mg "len" = none) (ay:Def P w K mg base "_law_digit" 1 2 aw):cE P w K mg base CX0 2 f fd ["_law_web_here", "_law_states"] (spF K ei 2):=by
  refine cf F iE fun cdv A outer s H E hr => ?_
  have hu:=dB hr
  exact (ah (aV (i:=2) iE.nd rfl (by first|exact .inl rfl|exact .inr rfl) (dJ (db al (fun _ _ _ _ z=>by rw [bO _ _ _ _ z];decide))))
    (ah (fZ PassesOwn.never rfl (bH rfl aM (cF rfl bx (cQ (mv 1)))) (aH (i:=3) iE.nd rfl (by first|exact .inl rfl|exact .inr rfl)) (am (bR (MW.mt (tR (aU (cr hu) dy (ao ay (hr.mono (by decide)) rfl (ae (aF (mv 1) (mv 3) (fun _ _=>rfl)) (ae ag al)) ap) ag (aJ _)) (gB (aU (fm hu) iN (aF (aF (mv 0) ag (fun _ _=>rfl)) (mv 3) (fun _ _=>rfl)) ag (aJ _)) (.inl rfl)))) (am (dH (gD (mv 2) (mv 3)))) aZ)))
    (am (aG (mv 2)))))
theorem fJ:aY ["_law_web_here", "_law_some_here", "_law_found", "_law_word", "_law_stands", "_law_k"] ["_law_web_here", "_law_some_here", "_law_found"] (aj d0):=⟨rfl,rfl,rfl,by decide +kernel,rfl,by decide +kernel,by decide +kernel⟩
theorem uz (F:Fun K "_law_good" "_law_good" d0 f fd) (aM:mg "range" = none) (bx:mg "len" = none) (kz:Def P w K mg base "turn" 6 2 ge) (kY:Def P w K mg base "begun" 6 2 fH):cE P w K mg base CX0 7 f fd ["_law_web_here", "_law_some_here", "_law_found"] (spF K g9 3):=by
  refine cf F fJ fun cdv A outer s H E hr => ?_
  have hu:=dB hr
  exact (ah (DS (mv 2) (iq rfl (bG (aH (i:=3) fJ.nd rfl (by first|exact .inl rfl|exact .inr rfl)) (bG (aH (i:=4) fJ.nd rfl (by first|exact .inl rfl|exact .inr rfl)) fD))))
    (ah (bR (aU (cr hu) dy (mv 3) (gy [110,111,116] rfl) (aJ _)) (ah (bR (aU (cr hu) dy (cF rfl bx (cQ (mv 4))) ag (aJ _)) (am (aG (MB.me (oP (jV (im (cr hu) dy (ao kz (hr.mono (by decide)) rfl (ae (mv 0) (ae (aF (mv 4) ag (fun _ _=>rfl)) al)) ap) (aF (mv 4) ag (fun _ _=>rfl)) (aJ _))) (oO (jV (im jJ Bc ag (aF (mv 4) ag (fun _ _=>rfl)) rfl))))))) aZ)
    (ah (bR (MW.mt (oN (aU (fm hu) iN (cF rfl bx (cQ (mv 4))) ag (aJ _)) (gB (aU (cr hu) dy (aF (mv 4) ag (fun _ _=>rfl)) (aF (mv 4) ag (fun _ _=>rfl)) (aJ _)) (.inr rfl)))) (am (aG fY)) aZ)
    (am (aG (MB.me (oP (jV (im (cr hu) dy (ao kz (hr.mono (by decide)) rfl (ae (mv 0) (ae (aF (mv 4) ag (fun _ _=>rfl)) al)) ap) (aF (mv 4) ag (fun _ _=>rfl)) (aJ _))) (oO (jV (im (cr hu) dy (ao kz (hr.mono (by decide)) rfl (ae (mv 0) (ae (aF (mv 4) ag (fun _ _=>rfl)) al)) ap) (aF (mv 4) ag (fun _ _=>rfl)) (aJ _)))))))))) aZ)
    (ah (bR (MW.mt (oN (aU (fm hu) iN (mv 3) (gy [116,117,114,110] rfl) (aJ _)) (oN (aU (fm hu) iN (aF (mv 4) ag (fun _ _=>rfl)) (ao kY (hr.mono (by decide)) rfl (ae (mv 0) (ae (mv 1) al)) ap) (aJ _)) (gB (aU jJ Bc ag (aF (mv 4) eQ (fun _ _=>rfl)) rfl) (.inr rfl))))) (am (aG fY)) aZ)
    (ah (fZ PassesOwn.never rfl (bH rfl aM (aP fS oM (cF rfl bx (cQ (mv 4))) ag)) (aH (i:=5) fJ.nd rfl (by first|exact .inl rfl|exact .inr rfl)) (am (bR (MW.mt (oN (aU tK D5 ag (aF (mv 4) (mv 5) (fun _ _=>rfl)) rfl) (gB (aU (fm hu) iN (ao kz (hr.mono (by decide)) rfl (ae (mv 0) (ae (aF (mv 4) (mv 5) (fun _ _=>rfl)) al)) ap) (aF (mv 4) (aP bo bW (mv 5) ag) (fun _ _=>rfl)) (aJ _)) (.inr rfl)))) (am (aG fY)) aZ)))
    (am (aG (im (cr hu) dy (ao kz (hr.mono (by decide)) rfl (ae (mv 0) (ae (aF (mv 4) eQ (fun _ _=>rfl)) al)) ap) (aF (mv 4) eQ (fun _ _=>rfl)) (aJ _))))))))
theorem gF:aY ["_law_ones", "_law_more", "_law_k", "_law_above_here"] ["_law_ones", "_law_more"] (aj dv):=⟨rfl,rfl,rfl,by decide +kernel,rfl,by decide +kernel,by decide +kernel⟩
theorem qI (F:Fun K "_law_above" "_law_above" dv f fd) (aM:mg "range" = none) (bx:mg "len" = none) (E5:mg "min" = none):cE P w K mg base CX0 1 f fd ["_law_ones", "_law_more"] (spF K hJ 2):=by
  refine cf F gF fun cdv A outer s H E hr => ?_
  have hu:=dB hr
  exact (ah (bR (aU kF jU (cF rfl bx (cQ (mv 1))) (cF rfl bx (cQ (mv 0))) (aJ _)) (am (aG fY)) aZ)
    (ah (fZ PassesOwn.never rfl (bH rfl aM (cF rfl bx (cQ (mv 0)))) (aH (i:=2) gF.nd rfl (by first|exact .inl rfl|exact .inr rfl)) (ah (aV (i:=3) gF.nd rfl (by first|exact .inl rfl|exact .inr rfl) (aF (mv 1) (Jj rfl rfl E5 (mv 2) (aP fS oM (cF rfl bx (cQ (mv 1))) ag)) (fun _ _=>rfl)))
    (am (bR (aU kF jU (cF rfl bx (eF (ef (own:=["_law_j"]) (capn:=["_law_above_here", "_law_ones", "_law_k"]) (caps:=[3,0,2]) rfl (bI.mk' rfl (by decide +kernel) (by decide +kernel) (by repeat' (first|exact aK.nil|refine aK.cons (by first|exact (fun _=>.inl rfl)|exact (fun _=>.inr rfl)|(intro z;cases z;done)) ?_)) (bp.cons rfl rfl (bp.cons rfl rfl (bp.cons rfl rfl bp.nil)))) (bH rfl aM (cF rfl bx (cQ (mv 3))))
      (fun cl C s H ex=>⟨(aH (i:=0) (show ((["_law_j"] : List Str)++(["_law_above_here", "_law_ones", "_law_k"] : List Str)).Nodup by decide +kernel) rfl (by first|exact .inl rfl|exact .inr rfl)),(oj (aU kF jU (aF (aF (mv 2) (mv 3) (fun _ _=>rfl)) (mv 0) (fun _ _=>rfl)) (aF (mv 1) (mv 0) (fun _ _=>rfl)) (aJ _))),(mv 0)⟩)))) ag (aJ _)) (am (aG fY)) aZ))))
    (am (aG fY))))
theorem dN:aY ["_law_script", "_law_drawn", "_law_states", "_law_head", "_law_web_here", "_law_some_here", "_law_more", "_law_everybody", "_law_told", "_law_one", "_law_found", "_law_k"] ["_law_script"] (aj kU):=⟨rfl,rfl,rfl,by decide +kernel,rfl,by decide +kernel,by decide +kernel⟩
theorem Js (F:Fun K "law" "law" kU f fd) (aM:mg "range" = none) (E6:mg "zip" = none) (bx:mg "len" = none) (er:mg "sorted" = none) (E7:mg "set" = none) (iI:Def P w K mg base "_law_above" 1 2 hJ) (jw:Def P w K mg base "_law_good" 7 3 g9) (jx:Def P w K mg base "turns_all" 7 2 dR) (gr:Def P w K mg base "_law_some" 2 2 ei) (ay:Def P w K mg base "_law_digit" 1 2 aw) (dk:Def P w K mg base "_law_cell" 2 2 bB) (jy:Def P w K mg base "_law_line" 2 1 gj) (gH:Def P w K mg base "_law_swayed" 2 3 gh) (kA:Def P w K mg base "_law_web" 3 1 iC):cE P w K mg base CX0 8 f fd ["_law_script"] (spF K Br 1):=by
  refine cf F dN fun cdv A outer s H E hr => ?_
  have hu:=dB hr
  exact (ah (DS (ao kA (hr.mono (by decide)) rfl (ae (mv 0) al) ap) (iq rfl (bG (aH (i:=1) dN.nd rfl (by first|exact .inl rfl|exact .inr rfl)) (bG (aH (i:=2) dN.nd rfl (by first|exact .inl rfl|exact .inr rfl)) (bG (aH (i:=3) dN.nd rfl (by first|exact .inl rfl|exact .inr rfl)) fD)))))
    (ah (aV (i:=4) dN.nd rfl (by first|exact .inl rfl|exact .inr rfl) (ao gH (hr.mono (by decide)) rfl (ae (mv 1) (ae (mv 2) (ae (mv 3) al))) ap))
    (ah (bR (aU (cr hu) dy (ao ay (hr.mono (by decide)) rfl (ae (mv 3) (ae ag al)) ap) ag (aJ _)) (ah (aV (i:=4) dN.nd rfl (by first|exact .inl rfl|exact .inr rfl) (ao jy (hr.mono (by decide)) rfl (ae (dJ (db (ae (ao dk (hr.mono (by decide)) rfl (ae (mv 0) (ae ag al)) ap) al) (fun _ _ _ _ z=>by rw [(aD bO) _ _ _ _ z];decide))) al) ap))
    (am (gm (i:=2) dN.nd rfl (by first|exact .inl rfl|exact .inr rfl) (own:=["_law_k"]) (capn:=["_law_script"]) (caps:=[0]) rfl (bI.mk' rfl (by decide +kernel) (by decide +kernel) (by repeat' (first|exact aK.nil|refine aK.cons (by first|exact (fun _=>.inl rfl)|exact (fun _=>.inr rfl)|(intro z;cases z;done)) ?_)) (bp.cons rfl rfl bp.nil)) (bH rfl aM (cF rfl bx (cQ (aF (mv 4) ag (fun _ _=>rfl)))))
      (fun cl C s H ex=>⟨(aH (i:=0) (show ((["_law_k"] : List Str)++(["_law_script"] : List Str)).Nodup by decide +kernel) rfl (by first|exact .inl rfl|exact .inr rfl)),cH,(dJ (db (ae (ao dk (hr.mono (by decide)) rfl (ae (mv 1) (ae (aP bo bW ag (mv 0)) al)) ap) al) (fun _ _ _ _ z=>by rw [(aD bO) _ _ _ _ z];decide)))⟩)))) aZ)
    (ah (aV (i:=5) dN.nd rfl (by first|exact .inl rfl|exact .inr rfl) (ao gr (hr.mono (by decide)) rfl (ae (mv 4) (ae (mv 2) al)) ap))
    (ah (bR (aU (cr hu) dy (ao ay (hr.mono (by decide)) rfl (ae (mv 3) (ae ag al)) ap) ag (aJ _)) (am (aV (i:=5) dN.nd rfl (by first|exact .inl rfl|exact .inr rfl) (kM (dJ (ef (own:=["_law_k"]) (capn:=["_law_web_here"]) (caps:=[4]) rfl (bI.mk' rfl (by decide +kernel) (by decide +kernel) (by repeat' (first|exact aK.nil|refine aK.cons (by first|exact (fun _=>.inl rfl)|exact (fun _=>.inr rfl)|(intro z;cases z;done)) ?_)) (bp.cons rfl rfl bp.nil)) (bH rfl aM (cF rfl bx (cQ (mv 2))))
      (fun cl C s H ex=>⟨(aH (i:=0) (show ((["_law_k"] : List Str)++(["_law_web_here"] : List Str)).Nodup by decide +kernel) rfl (by first|exact .inl rfl|exact .inr rfl)),(oj (aU (fm hu) iN (aF (aF (mv 1) ag (fun _ _=>rfl)) (mv 0) (fun _ _=>rfl)) ag (aJ _))),(mv 0)⟩))) wA (wB ag)))) aZ)
    (ah (aV (i:=6) dN.nd rfl (by first|exact .inl rfl|exact .inr rfl) (dJ (Es rfl rfl er rfl E7 (Gx (mv 5) (ao gr (hr.mono (by decide)) rfl (ae (mv 4) (ae (mv 2) al)) ap)))))
    (ah (gm (i:=7) dN.nd rfl (by first|exact .inl rfl|exact .inr rfl) (own:=["_law_k"]) (capn:=["_law_web_here"]) (caps:=[4]) rfl (bI.mk' rfl (by decide +kernel) (by decide +kernel) (by repeat' (first|exact aK.nil|refine aK.cons (by first|exact (fun _=>.inl rfl)|exact (fun _=>.inr rfl)|(intro z;cases z;done)) ?_)) (bp.cons rfl rfl bp.nil)) (bH rfl aM (cF rfl bx (cQ (mv 2))))
      (fun cl C s H ex=>⟨(aH (i:=0) (show ((["_law_k"] : List Str)++(["_law_web_here"] : List Str)).Nodup by decide +kernel) rfl (by first|exact .inl rfl|exact .inr rfl)),(oj (aU (fm hu) iN (aF (aF (mv 1) ag (fun _ _=>rfl)) (mv 0) (fun _ _=>rfl)) ag (aJ _))),(mv 0)⟩))
    (ah (gm (i:=8) dN.nd rfl (by first|exact .inl rfl|exact .inr rfl) (own:=["_law_one"]) (capn:=["_law_web_here"]) (caps:=[4]) rfl (bI.mk' rfl (by decide +kernel) (by decide +kernel) (by repeat' (first|exact aK.nil|refine aK.cons (by first|exact (fun _=>.inl rfl)|exact (fun _=>.inr rfl)|(intro z;cases z;done)) ?_)) (bp.cons rfl rfl bp.nil)) (gC (dI (ae (mv 5) (ae (mv 6) (ae (mv 7) al)))))
      (fun cl C s H ex=>⟨(aH (i:=0) (show ((["_law_one"] : List Str)++(["_law_web_here"] : List Str)).Nodup by decide +kernel) rfl (by first|exact .inl rfl|exact .inr rfl)),cH,(ao jx (hr.mono (by decide)) rfl (ae (mv 1) (ae (mv 0) al)) ap)⟩))
    (ah (GD PassesOwn.never rfl (GC rfl E6 (dI (ae (mv 5) (ae (mv 6) (ae (mv 7) al)))) (mv 8)) (iq rfl (bG (aH (i:=9) dN.nd rfl (by first|exact .inl rfl|exact .inr rfl)) (bG (aH (i:=10) dN.nd rfl (by first|exact .inl rfl|exact .inr rfl)) fD))) (am (bR (i5 (i4 (ao jw (hr.mono (by decide)) rfl (ae (mv 4) (ae (mv 9) (ae (mv 10) al))) ap))) (am (aG fY)) aZ)))
    (ah (fZ PassesOwn.never rfl (bH rfl aM ag) (aH (i:=11) dN.nd rfl (by first|exact .inl rfl|exact .inr rfl)) (am (bR (aU (cr hu) dy (aF (aF (mv 8) (mv 11) (fun _ _=>rfl)) ag (fun _ _=>rfl)) (gy [116,117,114,110] rfl) (aJ _)) (am (bR (MW.mt (oN (aU (fm hu) iN (aF (aF (mv 8) (aP bo bW (mv 11) ag) (fun _ _=>rfl)) ag (fun _ _=>rfl)) (gy [116,117,114,110] rfl) (aJ _)) (gB (i5 (i4 (ao iI (hr.mono (by decide)) rfl (ae (aF (aF (mv 8) (mv 11) (fun _ _=>rfl)) ag (fun _ _=>rfl)) (ae (aF (aF (mv 8) (aP bo bW (mv 11) ag) (fun _ _=>rfl)) ag (fun _ _=>rfl)) al)) ap))) (.inr rfl)))) (am (aG fY)) aZ)) aZ)))
    (am (aG fY))))))))))))
end
theorem hV {α : Type}(us:List α)(hl:us.length=1):∃ x0,us=[x0]:=match us,hl with | [x0],_=>⟨x0,rfl⟩
theorem bC {α : Type}(us:List α)(hl:us.length=2):∃ x0 x1,us=[x0,x1]:=match us,hl with | [x0,x1],_=>⟨x0,x1,rfl⟩
theorem jr {α : Type}(us:List α)(hl:us.length=3):∃ x0 x1 x2,us=[x0,x1,x2]:=match us,hl with | [x0,x1,x2],_=>⟨x0,x1,x2,rfl⟩
theorem Jt {l:PySem.W.OpenLaw} {w:World} {K:PySem.W.Frag} {h:Heap} {mg:Str→Option Value} {fa kB iJ iK mE mF pM mG kC jz zK gJ mH mI mJ zL uG fw fz uH jA jB jC iL gK kD kE gL jD jE jF iM E8:Addr} (X:K.In h) (G:h.Ns mainGlobals mg) (hfa:mg "law" = some (.ref fa))
    {xk xl:Option Addr} {xm:Array (Option Value)} {xn xo xp xq nu xr:Value}
    (zM:PySem.W.nsIn K mainGlobals "is_whole" = some (some (.ref kB))) (zN:K.lookup kB=some ⟨xn,xk,.func (PySem.W.fnOf "is_whole" "is_whole" (aX eI) (aL eI) (aj eI) .none xo xp xq xl nu xr),xm⟩) (kw:PySem.W.codeIn K nu "is_whole" = true) (pN:PySem.W.keepIn K (.ref kB)=true)
    {qK qL:Option Addr} {qM:Array (Option Value)} {qN qO qP qQ jZ qR:Value}
    (uI:PySem.W.nsIn K mainGlobals "is_between" = some (some (.ref iJ))) (uJ:K.lookup iJ=some ⟨qN,qK,.func (PySem.W.fnOf "is_between" "is_between" (aX dm) (aL dm) (aj dm) .none qO qP qQ qL jZ qR),qM⟩) (ek:PySem.W.codeIn K jZ "is_between" = true) (kZ:PySem.W.keepIn K (.ref iJ)=true)
    {qS qT:Option Addr} {qU:Array (Option Value)} {qV qW qX qY j2 qZ:Value}
    (uK:PySem.W.nsIn K mainGlobals "is_opinion" = some (some (.ref iK))) (uL:K.lookup iK=some ⟨qV,qS,.func (PySem.W.fnOf "is_opinion" "is_opinion" (aX dq) (aL dq) (aj dq) .none qW qX qY qT j2 qZ),qU⟩) (iH:PySem.W.codeIn K j2 "is_opinion" = true) (k8:PySem.W.keepIn K (.ref iK)=true)
    {zO zP:Option Addr} {zQ:Array (Option Value)} {zR zS zT zU pO zV:Value}
    (CO:PySem.W.nsIn K mainGlobals "many_of" = some (some (.ref mE))) (CP:K.lookup mE=some ⟨zR,zO,.func (PySem.W.fnOf "many_of" "many_of" (aX fL) (aL fL) (aj fL) .none zS zT zU zP pO zV),zQ⟩) (eM:PySem.W.codeIn K pO "many_of" = true) (sU:PySem.W.keepIn K (.ref mE)=true)
    {zW zX:Option Addr} {zY:Array (Option Value)} {zZ z0 z7 z8 pP z9:Value}
    (CQ:PySem.W.nsIn K mainGlobals "ties_of" = some (some (.ref mF))) (CS:K.lookup mF=some ⟨zZ,zW,.func (PySem.W.fnOf "ties_of" "ties_of" (aX fM) (aL fM) (aj fM) .none z0 z7 z8 zX pP z9),zY⟩) (mB:PySem.W.codeIn K pP "ties_of" = true) (sV:PySem.W.keepIn K (.ref mF)=true)
    {CT CU:Option Addr} {CV:Array (Option Value)} {CW CY CZ C0 sW C3:Value}
    (E9:PySem.W.nsIn K mainGlobals "bar_of" = some (some (.ref pM))) (Fc:K.lookup pM=some ⟨CW,CT,.func (PySem.W.fnOf "bar_of" "bar_of" (aX hU) (aL hU) (aj hU) .none CY CZ C0 CU sW C3),CV⟩) (pL:PySem.W.codeIn K sW "bar_of" = true) (xt:PySem.W.keepIn K (.ref pM)=true)
    {Aa Ab:Option Addr} {Ac:Array (Option Value)} {Ad Ae Af Ag pQ Ah:Value}
    (C4:PySem.W.nsIn K mainGlobals "stay_of" = some (some (.ref mG))) (C8:K.lookup mG=some ⟨Ad,Aa,.func (PySem.W.fnOf "stay_of" "stay_of" (aX fN) (aL fN) (aj fN) .none Ae Af Ag Ab pQ Ah),Ac⟩) (eO:PySem.W.codeIn K pQ "stay_of" = true) (sX:PySem.W.keepIn K (.ref mG)=true)
    {xu xv:Option Addr} {xw:Array (Option Value)} {xx xy xz xA nv xB:Value}
    (Ai:PySem.W.nsIn K mainGlobals "stays_of" = some (some (.ref kC))) (Aj:K.lookup kC=some ⟨xx,xu,.func (PySem.W.fnOf "stays_of" "stays_of" (aX eJ) (aL eJ) (aj eJ) .none xy xz xA xv nv xB),xw⟩) (kx:PySem.W.codeIn K nv "stays_of" = true) (pR:PySem.W.keepIn K (.ref kC)=true)
    {uM uN:Option Addr} {uO:Array (Option Value)} {uP uQ uR uS lc uT:Value}
    (xC:PySem.W.nsIn K mainGlobals "is_person" = some (some (.ref jz))) (xD:K.lookup jz=some ⟨uP,uM,.func (PySem.W.fnOf "is_person" "is_person" (aX dS) (aL dS) (aj dS) .none uQ uR uS uN lc uT),uO⟩) (ju:PySem.W.codeIn K lc "is_person" = true) (ny:PySem.W.keepIn K (.ref jz)=true)
    {Hg Hh:Option Addr} {Hi:Array (Option Value)} {Hj Hk Hl Hm BE Hn:Value}
    (JB:PySem.W.nsIn K mainGlobals "fits" = some (some (.ref zK))) (JC:K.lookup zK=some ⟨Hj,Hg,.func (PySem.W.fnOf "fits" "fits" (aX l9) (aL l9) (aj l9) .none Hk Hl Hm Hh BE Hn),Hi⟩) (zJ:PySem.W.codeIn K BE "fits" = true) (Fd:PySem.W.keepIn K (.ref zK)=true)
    {pS pT:Option Addr} {pU:Array (Option Value)} {pV pW pX pY jG pZ:Value}
    (ra:PySem.W.nsIn K mainGlobals "check_stand" = some (some (.ref gJ))) (rb:K.lookup gJ=some ⟨pV,pS,.func (PySem.W.fnOf "check_stand" "check_stand" (aX c8) (aL c8) (aj c8) .none pW pX pY pT jG pZ),pU⟩) (dG:PySem.W.codeIn K jG "check_stand" = true) (j3:PySem.W.keepIn K (.ref gJ)=true)
    {Ak Al:Option Addr} {Am:Array (Option Value)} {An Ao Ap Aq p5 Ar:Value}
    (C9:PySem.W.nsIn K mainGlobals "pull_at" = some (some (.ref mH))) (Da:K.lookup mH=some ⟨An,Ak,.func (PySem.W.fnOf "pull_at" "pull_at" (aX fO) (aL fO) (aj fO) .none Ao Ap Aq Al p5 Ar),Am⟩) (mC:PySem.W.codeIn K p5 "pull_at" = true) (sY:PySem.W.keepIn K (.ref mH)=true)
    {As At:Option Addr} {Au:Array (Option Value)} {Av Aw Ax Ay p6 Az:Value}
    (Db:PySem.W.nsIn K mainGlobals "next_at" = some (some (.ref mI))) (Dc:K.lookup mI=some ⟨Av,As,.func (PySem.W.fnOf "next_at" "next_at" (aX fP) (aL fP) (aj fP) .none Aw Ax Ay At p6 Az),Au⟩) (mD:PySem.W.codeIn K p6 "next_at" = true) (sZ:PySem.W.keepIn K (.ref mI)=true)
    {AA AB:Option Addr} {AC:Array (Option Value)} {AD AE AF AG p7 AH:Value}
    (Dd:PySem.W.nsIn K mainGlobals "turn_at" = some (some (.ref mJ))) (De:K.lookup mJ=some ⟨AD,AA,.func (PySem.W.fnOf "turn_at" "turn_at" (aX fQ) (aL fQ) (aj fQ) .none AE AF AG AB p7 AH),AC⟩) (eP:PySem.W.codeIn K p7 "turn_at" = true) (tf:PySem.W.keepIn K (.ref mJ)=true)
    {Ho Hq:Option Addr} {Hr:Array (Option Value)} {Hs Ht Hu Hv BF Hw:Value}
    (JD:PySem.W.nsIn K mainGlobals "turn" = some (some (.ref zL))) (JE:K.lookup zL=some ⟨Hs,Ho,.func (PySem.W.fnOf "turn" "turn" (aX ma) (aL ma) (aj ma) .none Ht Hu Hv Hq BF Hw),Hr⟩) (kz:PySem.W.codeIn K BF "turn" = true) (Fe:PySem.W.keepIn K (.ref zL)=true)
    {Fg Fh:Option Addr} {Fk:Array (Option Value)} {Fl Fo Fp Fq xE Ft:Value}
    (Hx:PySem.W.nsIn K mainGlobals "ended" = some (some (.ref uG))) (Hy:K.lookup uG=some ⟨Fl,Fg,.func (PySem.W.fnOf "ended" "ended" (aX jQ) (aL jQ) (aj jQ) .none Fo Fp Fq Fh xE Ft),Fk⟩) (uF:PySem.W.codeIn K xE "ended" = true) (BG:PySem.W.keepIn K (.ref uG)=true)
    {mK mL:Option Addr} {mM:Array (Option Value)} {mN mO mP mQ hX mR:Value}
    (nV:PySem.W.nsIn K mainGlobals "may_be_chosen" = some (some (.ref fw))) (nW:K.lookup fw=some ⟨mN,mK,.func (PySem.W.fnOf "may_be_chosen" "may_be_chosen" (aX cz) (aL cz) (aj cz) .none mO mP mQ mL hX mR),mM⟩) (fq:PySem.W.codeIn K hX "may_be_chosen" = true) (iQ:PySem.W.keepIn K (.ref fw)=true)
    {mS mT:Option Addr} {mU:Array (Option Value)} {mV mW mX mY ia mZ:Value}
    (nX:PySem.W.nsIn K mainGlobals "are_choosable" = some (some (.ref fz))) (nY:K.lookup fz=some ⟨mV,mS,.func (PySem.W.fnOf "are_choosable" "are_choosable" (aX cA) (aL cA) (aj cA) .none mW mX mY mT ia mZ),mU⟩) (ft:PySem.W.codeIn K ia "are_choosable" = true) (iR:PySem.W.keepIn K (.ref fz)=true)
    {Fu Fv:Option Addr} {Fw:Array (Option Value)} {Fx Fy Fz FA xF FB:Value}
    (Hz:PySem.W.nsIn K mainGlobals "begun" = some (some (.ref uH))) (HA:K.lookup uH=some ⟨Fx,Fu,.func (PySem.W.fnOf "begun" "begun" (aX jR) (aL jR) (aj jR) .none Fy Fz FA Fv xF FB),Fw⟩) (kY:PySem.W.codeIn K xF "begun" = true) (BH:PySem.W.keepIn K (.ref uH)=true)
    {uU uV:Option Addr} {uW:Array (Option Value)} {uX uY uZ u3 lf u4:Value}
    (xG:PySem.W.nsIn K mainGlobals "turns_all" = some (some (.ref jA))) (xH:K.lookup jA=some ⟨uX,uU,.func (PySem.W.fnOf "turns_all" "turns_all" (aX dU) (aL dU) (aj dU) .none uY uZ u3 uV lf u4),uW⟩) (jx:PySem.W.codeIn K lf "turns_all" = true) (nz:PySem.W.keepIn K (.ref jA)=true)
    {va vb:Option Addr} {vc:Array (Option Value)} {vd ve vf vg lg vh:Value}
    (xI:PySem.W.nsIn K mainGlobals "_law_wide" = some (some (.ref jB))) (xJ:K.lookup jB=some ⟨vd,va,.func (PySem.W.fnOf "_law_wide" "_law_wide" (aX dW) (aL dW) (aj dW) .none ve vf vg vb lg vh),vc⟩) (jv:PySem.W.codeIn K lg "_law_wide" = true) (nA:PySem.W.keepIn K (.ref jB)=true)
    {vj vk:Option Addr} {vm:Array (Option Value)} {vn vp vq vt lh vv:Value}
    (xK:PySem.W.nsIn K mainGlobals "_law_cell" = some (some (.ref jC))) (xL:K.lookup jC=some ⟨vn,vj,.func (PySem.W.fnOf "_law_cell" "_law_cell" (aX dX) (aL dX) (aj dX) .none vp vq vt vk lh vv),vm⟩) (dk:PySem.W.codeIn K lh "_law_cell" = true) (nB:PySem.W.keepIn K (.ref jC)=true)
    {rc rf:Option Addr} {rj:Array (Option Value)} {rk rl rn rq j4 rA:Value}
    (vw:PySem.W.nsIn K mainGlobals "_law_digit" = some (some (.ref iL))) (vx:K.lookup iL=some ⟨rk,rc,.func (PySem.W.fnOf "_law_digit" "_law_digit" (aX du) (aL du) (aj du) .none rl rn rq rf j4 rA),rj⟩) (ay:PySem.W.codeIn K j4 "_law_digit" = true) (li:PySem.W.keepIn K (.ref iL)=true)
    {p8 p9:Option Addr} {qa:Array (Option Value)} {qb qc qd qe jH qf:Value}
    (rC:PySem.W.nsIn K mainGlobals "_law_weight" = some (some (.ref gK))) (rE:K.lookup gK=some ⟨qb,p8,.func (PySem.W.fnOf "_law_weight" "_law_weight" (aX c9) (aL c9) (aj c9) .none qc qd qe p9 jH qf),qa⟩) (gG:PySem.W.codeIn K jH "_law_weight" = true) (j5:PySem.W.keepIn K (.ref gK)=true)
    {xM xN:Option Addr} {xO:Array (Option Value)} {xP xQ xR xS nC xT:Value}
    (AI:PySem.W.nsIn K mainGlobals "_law_bar" = some (some (.ref kD))) (AJ:K.lookup kD=some ⟨xP,xM,.func (PySem.W.fnOf "_law_bar" "_law_bar" (aX eK) (aL eK) (aj eK) .none xQ xR xS xN nC xT),xO⟩) (ky:PySem.W.codeIn K nC "_law_bar" = true) (qg:PySem.W.keepIn K (.ref kD)=true)
    {xU xV:Option Addr} {xW:Array (Option Value)} {xX xY xZ x3 nD x4:Value}
    (AK:PySem.W.nsIn K mainGlobals "_law_web" = some (some (.ref kE))) (AL:K.lookup kE=some ⟨xX,xU,.func (PySem.W.fnOf "_law_web" "_law_web" (aX eL) (aL eL) (aj eL) .none xY xZ x3 xV nD x4),xW⟩) (kA:PySem.W.codeIn K nD "_law_web" = true) (qh:PySem.W.keepIn K (.ref kE)=true)
    {qi qj:Option Addr} {qk:Array (Option Value)} {ql qo qp qq jI qs:Value}
    (rF:PySem.W.nsIn K mainGlobals "_law_swayed" = some (some (.ref gL))) (rG:K.lookup gL=some ⟨ql,qi,.func (PySem.W.fnOf "_law_swayed" "_law_swayed" (aX da) (aL da) (aj da) .none qo qp qq qj jI qs),qk⟩) (gH:PySem.W.codeIn K jI "_law_swayed" = true) (j6:PySem.W.keepIn K (.ref gL)=true)
    {vy vz:Option Addr} {vA:Array (Option Value)} {vB vC vD vE lm vF:Value}
    (x8:PySem.W.nsIn K mainGlobals "_law_line" = some (some (.ref jD))) (x9:K.lookup jD=some ⟨vB,vy,.func (PySem.W.fnOf "_law_line" "_law_line" (aX dY) (aL dY) (aj dY) .none vC vD vE vz lm vF),vA⟩) (jy:PySem.W.codeIn K lm "_law_line" = true) (nE:PySem.W.keepIn K (.ref jD)=true)
    {vG vH:Option Addr} {vI:Array (Option Value)} {vJ vK vL vM lp vN:Value}
    (ya:PySem.W.nsIn K mainGlobals "_law_some" = some (some (.ref jE))) (yb:K.lookup jE=some ⟨vJ,vG,.func (PySem.W.fnOf "_law_some" "_law_some" (aX dZ) (aL dZ) (aj dZ) .none vK vL vM vH lp vN),vI⟩) (gr:PySem.W.codeIn K lp "_law_some" = true) (nF:PySem.W.keepIn K (.ref jE)=true)
    {vO vP:Option Addr} {vQ:Array (Option Value)} {vR vS vT vU lq vV:Value}
    (yc:PySem.W.nsIn K mainGlobals "_law_good" = some (some (.ref jF))) (yd:K.lookup jF=some ⟨vR,vO,.func (PySem.W.fnOf "_law_good" "_law_good" (aX d0) (aL d0) (aj d0) .none vS vT vU vP lq vV),vQ⟩) (jw:PySem.W.codeIn K lq "_law_good" = true) (nG:PySem.W.keepIn K (.ref jF)=true)
    {rH rJ:Option Addr} {rK:Array (Option Value)} {rL rM rN rP j7 rR:Value}
    (vW:PySem.W.nsIn K mainGlobals "_law_above" = some (some (.ref iM))) (vX:K.lookup iM=some ⟨rL,rH,.func (PySem.W.fnOf "_law_above" "_law_above" (aX dv) (aL dv) (aj dv) .none rM rN rP rJ j7 rR),rK⟩) (iI:PySem.W.codeIn K j7 "_law_above" = true) (lu:PySem.W.keepIn K (.ref iM)=true)
    {JF FC:Option Addr} {JG:Array (Option Value)} {JH FD FE FF AM FG:Value}
    (KD:PySem.W.nsIn K mainGlobals "law" = some (some (.ref E8))) (KF:K.lookup E8=some ⟨JH,JF,.func (PySem.W.fnOf "law" "law" (aX kU) (aL kU) (aj kU) .none FD FE FF FC AM FG),JG⟩) (KG:PySem.W.codeIn K AM "law" = true) (KH:PySem.W.keepIn K (.ref E8)=true)
    (vY:PySem.W.nsIn K mainGlobals "isinstance" = some none)
    (JI:PySem.W.nsIn K mainGlobals "bool" = some none)
    (KI:PySem.W.nsIn K mainGlobals "int" = some none)
    (KJ:PySem.W.nsIn K mainGlobals "len" = some none)
    (JJ:PySem.W.nsIn K mainGlobals "list" = some none)
    (ye:PySem.W.nsIn K mainGlobals "enumerate" = some none)
    (HB:PySem.W.nsIn K mainGlobals "tuple" = some none)
    (KK:PySem.W.nsIn K mainGlobals "sum" = some none)
    (HC:PySem.W.nsIn K mainGlobals "range" = some none)
    (KL:PySem.W.nsIn K mainGlobals "all" = some none)
    (FH:PySem.W.nsIn K mainGlobals "sorted" = some none)
    (KM:PySem.W.nsIn K mainGlobals "min" = some none)
    (KN:PySem.W.nsIn K mainGlobals "zip" = some none)
    (KO:PySem.W.nsIn K mainGlobals "set" = some none)
    : ∃ fd:FuncData,(∀ (s:Shared) (v:Value),BindsTo s fd ⟨[v],[]⟩ [("_law_script",v)]) ∧ ∀ base:Heap,K.In base→base.Ns mainGlobals mg→cE l.prog w K mg base CX0 8 fa fd ["_law_script"] (spF K Br 1):=by
  have e:=hfa.symm.trans (PySem.W.mg_of X G KD)
  cases e
  have bV:=PySem.W.mg_none_of X G vY
  have zI:=PySem.W.mg_none_of X G JI
  have kX:=PySem.W.mg_none_of X G KI
  have bx:=PySem.W.mg_none_of X G KJ
  have mz:=PySem.W.mg_none_of X G JJ
  have d8:=PySem.W.mg_none_of X G ye
  have bE:=PySem.W.mg_none_of X G HB
  have iP:=PySem.W.mg_none_of X G KK
  have aM:=PySem.W.mg_none_of X G HC
  have BD:=PySem.W.mg_none_of X G KL
  have er:=PySem.W.mg_none_of X G FH
  have E5:=PySem.W.mg_none_of X G KM
  have E6:=PySem.W.mg_none_of X G KN
  have E7:=PySem.W.mg_none_of X G KO
  have qt:=bu (st:=eI) zN kw pN
  have AN:=qt.binds (ps:=["thing"]) fun _ _ _ _ _ _ us hl=>by obtain⟨_,rfl⟩:=hV us hl;rfl
  have lx:=bu (st:=dm) uJ ek kZ
  have vZ:=lx.binds (ps:=["thing", "least", "most"]) fun _ _ _ _ _ _ us hl=>by obtain⟨_,_,_,rfl⟩:=jr us hl;rfl
  have ly:=bu (st:=dq) uL iH k8
  have v5:=ly.binds (ps:=["thing"]) fun _ _ _ _ _ _ us hl=>by obtain⟨_,rfl⟩:=hV us hl;rfl
  have tj:=bu (st:=fL) CP eM sU
  have Df:=tj.binds (ps:=["web"]) fun _ _ _ _ _ _ us hl=>by obtain⟨_,rfl⟩:=hV us hl;rfl
  have tm:=bu (st:=fM) CS mB sV
  have Dg:=tm.binds (ps:=["web", "person"]) fun _ _ _ _ _ _ us hl=>by obtain⟨_,_,rfl⟩:=bC us hl;rfl
  have yf:=bu (st:=hU) Fc pL xt
  have FI:=yf.binds (ps:=["web", "person"]) fun _ _ _ _ _ _ us hl=>by obtain⟨_,_,rfl⟩:=bC us hl;rfl
  have tq:=bu (st:=fN) C8 eO sX
  have Dh:=tq.binds (ps:=["web", "person"]) fun _ _ _ _ _ _ us hl=>by obtain⟨_,_,rfl⟩:=bC us hl;rfl
  have qu:=bu (st:=eJ) Aj kx pR
  have AO:=qu.binds (ps:=["web"]) fun _ _ _ _ _ _ us hl=>by obtain⟨_,rfl⟩:=hV us hl;rfl
  have nH:=bu (st:=dS) xD ju ny
  have yg:=nH.binds (ps:=["web", "thing"]) fun _ _ _ _ _ _ us hl=>by obtain⟨_,_,rfl⟩:=bC us hl;rfl
  have FJ:=bu (st:=l9) JC zJ Fd
  have JK:=FJ.binds (ps:=["web", "thing"]) fun _ _ _ _ _ _ us hl=>by obtain⟨_,_,rfl⟩:=bC us hl;rfl
  have j8:=bu (st:=c8) rb dG j3
  have rS:=j8.binds (ps:=["web", "thing"]) fun _ _ _ _ _ _ us hl=>by obtain⟨_,_,rfl⟩:=bC us hl;rfl
  have tw:=bu (st:=fO) Da mC sY
  have Di:=tw.binds (ps:=["web", "stand", "person"]) fun _ _ _ _ _ _ us hl=>by obtain⟨_,_,_,rfl⟩:=jr us hl;rfl
  have tz:=bu (st:=fP) Dc mD sZ
  have Dj:=tz.binds (ps:=["web", "stand", "person"]) fun _ _ _ _ _ _ us hl=>by obtain⟨_,_,_,rfl⟩:=jr us hl;rfl
  have tD:=bu (st:=fQ) De eP tf
  have Dk:=tD.binds (ps:=["web", "stand"]) fun _ _ _ _ _ _ us hl=>by obtain⟨_,_,rfl⟩:=bC us hl;rfl
  have FK:=bu (st:=ma) JE kz Fe
  have JL:=FK.binds (ps:=["web", "stand"]) fun _ _ _ _ _ _ us hl=>by obtain⟨_,_,rfl⟩:=bC us hl;rfl
  have BI:=bu (st:=jQ) Hy uF BG
  have HE:=BI.binds (ps:=["web", "stand"]) fun _ _ _ _ _ _ us hl=>by obtain⟨_,_,rfl⟩:=bC us hl;rfl
  have iS:=bu (st:=cz) nW fq iQ
  have nZ:=iS.binds (ps:=["web", "thing"]) fun _ _ _ _ _ _ us hl=>by obtain⟨_,_,rfl⟩:=bC us hl;rfl
  have iT:=bu (st:=cA) nY ft iR
  have n5:=iT.binds (ps:=["web", "thing"]) fun _ _ _ _ _ _ us hl=>by obtain⟨_,_,rfl⟩:=bC us hl;rfl
  have BJ:=bu (st:=jR) HA kY BH
  have HF:=BJ.binds (ps:=["web", "some"]) fun _ _ _ _ _ _ us hl=>by obtain⟨_,_,rfl⟩:=bC us hl;rfl
  have nJ:=bu (st:=dU) xH jx nz
  have yh:=nJ.binds (ps:=["web", "some"]) fun _ _ _ _ _ _ us hl=>by obtain⟨_,_,rfl⟩:=bC us hl;rfl
  have nK:=bu (st:=dW) xJ jv nA
  have yi:=nK.binds (ps:=["_law_script", "_law_k"]) fun _ _ _ _ _ _ us hl=>by obtain⟨_,_,rfl⟩:=bC us hl;rfl
  have nM:=bu (st:=dX) xL dk nB
  have yj:=nM.binds (ps:=["_law_script", "_law_k"]) fun _ _ _ _ _ _ us hl=>by obtain⟨_,_,rfl⟩:=bC us hl;rfl
  have lB:=bu (st:=du) vx ay li
  have v6:=lB.binds (ps:=["_law_state", "_law_most"]) fun _ _ _ _ _ _ us hl=>by obtain⟨_,_,rfl⟩:=bC us hl;rfl
  have j9:=bu (st:=c9) rE gG j5
  have rT:=j9.binds (ps:=["_law_state", "_law_sort"]) fun _ _ _ _ _ _ us hl=>by obtain⟨_,_,rfl⟩:=bC us hl;rfl
  have qv:=bu (st:=eK) AJ ky qg
  have AQ:=qv.binds (ps:=["_law_state", "_law_total"]) fun _ _ _ _ _ _ us hl=>by obtain⟨_,_,rfl⟩:=bC us hl;rfl
  have qw:=bu (st:=eL) AL kA qh
  have AR:=qw.binds (ps:=["_law_script"]) fun _ _ _ _ _ _ us hl=>by obtain⟨_,rfl⟩:=hV us hl;rfl
  have ka:=bu (st:=da) rG gH j6
  have rV:=ka.binds (ps:=["_law_web_here", "_law_states", "_law_head"]) fun _ _ _ _ _ _ us hl=>by obtain⟨_,_,_,rfl⟩:=jr us hl;rfl
  have nN:=bu (st:=dY) x9 jy nE
  have yk:=nN.binds (ps:=["_law_head"]) fun _ _ _ _ _ _ us hl=>by obtain⟨_,rfl⟩:=hV us hl;rfl
  have nO:=bu (st:=dZ) yb gr nF
  have ym:=nO.binds (ps:=["_law_web_here", "_law_states"]) fun _ _ _ _ _ _ us hl=>by obtain⟨_,_,rfl⟩:=bC us hl;rfl
  have nP:=bu (st:=d0) yd jw nG
  have yn:=nP.binds (ps:=["_law_web_here", "_law_some_here", "_law_found"]) fun _ _ _ _ _ _ us hl=>by obtain⟨_,_,_,rfl⟩:=jr us hl;rfl
  have lC:=bu (st:=dv) vX iI lu
  have v7:=lC.binds (ps:=["_law_ones", "_law_more"]) fun _ _ _ _ _ _ us hl=>by obtain⟨_,_,rfl⟩:=bC us hl;rfl
  have KP:=bu (st:=kU) KF KG KH
  refine⟨PySem.W.fnOf "law" "law" (aX kU) (aL kU) (aj kU) .none FD FE FF FC AM FG,fun s v=>.of_eq rfl,fun base KB _ => ?_⟩
  have AS:Def l.prog w K mg base "is_whole" 1 1 eG:=Def.mk' (PySem.W.mg_of X G zM) pN AN (wX (P:=l.prog) (w:=w) (base:=base) qt bV zI kX)
  have lD:Def l.prog w K mg base "is_between" 2 3 cC:=Def.mk' (PySem.W.mg_of X G uI) kZ vZ (qE (P:=l.prog) (w:=w) (base:=base) lx AS)
  have wa:Def l.prog w K mg base "is_opinion" 3 1 cU:=Def.mk' (PySem.W.mg_of X G uK) k8 v5 (qG (P:=l.prog) (w:=w) (base:=base) ly lD)
  have m5:Def l.prog w K mg base "many_of" 1 1 cw:=Def.mk' (PySem.W.mg_of X G CO) sU Df (zr (P:=l.prog) (w:=w) (base:=base) tj bx)
  have Dl:Def l.prog w K mg base "ties_of" 1 2 gW:=Def.mk' (PySem.W.mg_of X G CQ) sV Dg (zv (P:=l.prog) (w:=w) (base:=base) tm)
  have FL:Def l.prog w K mg base "bar_of" 1 2 gX:=Def.mk' (PySem.W.mg_of X G E9) xt FI (CA (P:=l.prog) (w:=w) (base:=base) yf)
  have m6:Def l.prog w K mg base "stay_of" 1 2 cM:=Def.mk' (PySem.W.mg_of X G C4) sX Dh (zx (P:=l.prog) (w:=w) (base:=base) tq)
  have AT:Def l.prog w K mg base "stays_of" 1 1 dM:=Def.mk' (PySem.W.mg_of X G Ai) pR AO (wZ (P:=l.prog) (w:=w) (base:=base) qu mz)
  have yo:Def l.prog w K mg base "is_person" 3 2 eZ:=Def.mk' (PySem.W.mg_of X G xC) ny yg (ur (P:=l.prog) (w:=w) (base:=base) nH lD m5)
  have JM:Def l.prog w K mg base "fits" 4 2 pv:=Def.mk' (PySem.W.mg_of X G JB) Fd JK (GU (P:=l.prog) (w:=w) (base:=base) FJ d8 bx bV bE m6 wa m5)
  have kb:Def l.prog w K mg base "check_stand" 5 2 cg:=Def.mk' (PySem.W.mg_of X G ra) j3 rS (pB (P:=l.prog) (w:=w) (base:=base) j8 JM)
  have Dm:Def l.prog w K mg base "pull_at" 2 3 fK:=Def.mk' (PySem.W.mg_of X G C9) sY Di (zA (P:=l.prog) (w:=w) (base:=base) tw iP Dl)
  have Dn:Def l.prog w K mg base "next_at" 3 3 eH:=Def.mk' (PySem.W.mg_of X G Db) sZ Dj (zB (P:=l.prog) (w:=w) (base:=base) tz FL Dm m6)
  have tF:Def l.prog w K mg base "turn_at" 4 2 cN:=Def.mk' (PySem.W.mg_of X G Dd) tf Dk (zD (P:=l.prog) (w:=w) (base:=base) tD bE aM m5 Dn)
  have JN:Def l.prog w K mg base "turn" 6 2 ge:=Def.mk' (PySem.W.mg_of X G JD) Fe JL (GW (P:=l.prog) (w:=w) (base:=base) FK tF kb)
  have HG:Def l.prog w K mg base "ended" 6 2 iA:=Def.mk' (PySem.W.mg_of X G Hx) BG HE (EH (P:=l.prog) (w:=w) (base:=base) BI bx tF kb)
  have n6:Def l.prog w K mg base "may_be_chosen" 4 2 bL:=Def.mk' (PySem.W.mg_of X G nV) iQ nZ (mf (P:=l.prog) (w:=w) (base:=base) iS m6 yo)
  have n8:Def l.prog w K mg base "are_choosable" 5 2 cy:=Def.mk' (PySem.W.mg_of X G nX) iR n5 (mj (P:=l.prog) (w:=w) (base:=base) iT BD aM bx bV mz n6)
  have BK:Def l.prog w K mg base "begun" 6 2 fH:=Def.mk' (PySem.W.mg_of X G Hz) BH HF (EJ (P:=l.prog) (w:=w) (base:=base) BJ bE d8 AT n8)
  have yp:Def l.prog w K mg base "turns_all" 7 2 dR:=Def.mk' (PySem.W.mg_of X G xG) nz yh (ut (P:=l.prog) (w:=w) (base:=base) nJ HG BK)
  have yq:Def l.prog w K mg base "_law_wide" 1 2 gf:=Def.mk' (PySem.W.mg_of X G xI) nA yi (uu (P:=l.prog) (w:=w) (base:=base) nK aM bx)
  have nQ:Def l.prog w K mg base "_law_cell" 2 2 bB:=Def.mk' (PySem.W.mg_of X G xK) nB yj (uw (P:=l.prog) (w:=w) (base:=base) nM bx yq)
  have cW:Def l.prog w K mg base "_law_digit" 1 2 aw:=Def.mk' (PySem.W.mg_of X G vw) li v6 (qH (P:=l.prog) (w:=w) (base:=base) lB)
  have rW:Def l.prog w K mg base "_law_weight" 2 2 cV:=Def.mk' (PySem.W.mg_of X G rC) j5 rT (pC (P:=l.prog) (w:=w) (base:=base) j9 kX cW)
  have AU:Def l.prog w K mg base "_law_bar" 2 2 eU:=Def.mk' (PySem.W.mg_of X G AI) qg AQ (w5 (P:=l.prog) (w:=w) (base:=base) qv cW)
  have AV:Def l.prog w K mg base "_law_web" 3 1 iC:=Def.mk' (PySem.W.mg_of X G AK) qh AR (w6 (P:=l.prog) (w:=w) (base:=base) qw bE er aM iP cW AU rW nQ)
  have rX:Def l.prog w K mg base "_law_swayed" 2 3 gh:=Def.mk' (PySem.W.mg_of X G rF) j6 rV (pD (P:=l.prog) (w:=w) (base:=base) ka bE aM bx kX iP cW)
  have yr:Def l.prog w K mg base "_law_line" 2 1 gj:=Def.mk' (PySem.W.mg_of X G x8) nE yk (ux (P:=l.prog) (w:=w) (base:=base) nN bE er iP aM cW)
  have yt:Def l.prog w K mg base "_law_some" 2 2 ei:=Def.mk' (PySem.W.mg_of X G ya) nF ym (uy (P:=l.prog) (w:=w) (base:=base) nO aM bx cW)
  have yu:Def l.prog w K mg base "_law_good" 7 3 g9:=Def.mk' (PySem.W.mg_of X G yc) nG yn (uz (P:=l.prog) (w:=w) (base:=base) nP aM bx JN BK)
  have wb:Def l.prog w K mg base "_law_above" 1 2 hJ:=Def.mk' (PySem.W.mg_of X G vW) lu v7 (qI (P:=l.prog) (w:=w) (base:=base) lC aM bx E5)
  exact Js (P:=l.prog) (w:=w) (base:=base) KP aM E6 bx er E7 wb yu yp yt cW nQ yr rX AV
end Fm
set_option linter.all false
namespace Fm
theorem jt {x:Int}(h0:0≤x)(h1:x < 4611686018427387904):sml x=true:=by
  simp only [sml,Bool.and_eq_true,decide_eq_true_eq];omega
theorem cO {n i:Nat}{x:D}(hx:((List.range n).map fun k:Nat=>D.int k)[i]? = some x):i < n∧x=.int (i:Nat):=by
  have hi:i < n:=by
    have:=(List.getElem?_eq_some_iff.mp hx).1
    simpa using this
  exact⟨hi,by simpa [hi,List.getElem?_eq_getElem] using hx.symm⟩
theorem b1l (L:D)(k sd fv j:Int)(a b:Option D)(h0:Hd)(e1:sml 31=true)(e2:sml 48271=true)(e3:sml j=true) :
   aT (gN 5) (ak kg (ak fj (ak bT (ak bT (ak bT (aa 2) (ak fj (fC (.int 31)) (aa 1))) (ak fj (aa 4) (aa 4))) (fC (.int 7))) (fC (.int 48271))) (fC (.int 2147483629))) [some L,some (.int k),some (.int sd),some (.int fv),some (.int j),b] h0
   = .nx [some L,some (.int k),some (.int sd),some (.int fv),some (.int j),some (.int ((sd + 31 * k + j * j + 7) * 48271 % 2147483629))] h0:=by
  simp [e1,e2,e3]
theorem b2l (L:D)(k sd fv j n1:Int)(a b:Option D)(h0:Hd)(e6:sml (n1 + 5)=true) :
   aT (gN 5) (ak kg (ak fj (ak bT (aa 5) (fC (.int 5))) (ak bT (ak bT (aa 5) (aa 4)) (fC (.int 3)))) (fC (.int 2147483587))) [some L,some (.int k),some (.int sd),some (.int fv),some (.int j),some (.int n1)] h0
   = .nx [some L,some (.int k),some (.int sd),some (.int fv),some (.int j),some (.int ((n1 + 5) * (n1 + j + 3) % 2147483587))] h0:=by
  simp [e6]
theorem b3l (L:D)(k sd fv j n1:Int)(a b:Option D)(h0:Hd)(e6:sml 69621=true) :
   aT (gN 5) (ak kg (ak fj (ak bT (aa 5) (aa 1)) (fC (.int 69621))) (fC (.int 2147483563))) [some L,some (.int k),some (.int sd),some (.int fv),some (.int j),some (.int n1)] h0
   = .nx [some L,some (.int k),some (.int sd),some (.int fv),some (.int j),some (.int ((n1 + k) * 69621 % 2147483563))] h0:=by
  simp [e6]
theorem b4l (L:D)(k sd fv j n1:Int)(a b:Option D)(h0:Hd)(e5:sml 2147483563=true)(e6:sml n1=true) :
   aT (gN 3) (ak bT (ak fj (aa 3) (fC (.int 2147483563))) (ak kg (ak fj (aa 5) (ak bT (aa 5) (fC (.int 11)))) (fC (.int 2147483549)))) [some L,some (.int k),some (.int sd),some (.int fv),some (.int j),some (.int n1)] h0
   = .nx [some L,some (.int k),some (.int sd),some (.int (fv * 2147483563 + n1 * (n1 + 11) % 2147483549)),some (.int j),some (.int n1)] h0:=by
  simp [e5,e6]
theorem b5l (L:D)(k sd fv j:Int)(a b:Option D)(h0:Hd)(e1:sml 31=true)(e2:sml 48271=true)(e3:sml j=true)(e4:sml 69621=true)(e5:sml 2147483563=true)(e6:∀ x:Int,sml (x % 2147483629 + 5)=true)(e7:∀ x:Int,sml (x % 2147483563)=true) :
   ∃ fv' n,jO [some L,some (.int k),some (.int sd),some (.int fv),some (.int j),b] h0=.nx [some L,some (.int k),some (.int sd),some (.int fv'),some (.int j),some (.int n)] h0:=by
  have q1:=b1l L k sd fv j a b h0 e1 e2 e3
  have q2:=b2l L k sd fv j _ a b h0 (e6 ((sd + 31 * k + j * j + 7) * 48271))
  have q3:=fun n=>b3l L k sd fv j n a b h0 e4
  have q4:=fun n=>b4l L k sd fv j _ a b h0 e5 (e7 n)
  refine⟨?_,?_,?_⟩
  rotate_left 2
  · simp only [jO,aE,q1,q2,q3,q4]
    rfl
theorem GX (ns:List Int)(k:Int)(hk:0≤k∧k≤1000)(h:Hd):∃ v,gf [.lit (ns.map .int),.int k] h=.ok (.int v) h:=by
  have seed:∃ sd,(if 0 < (ns.length:Int) then (match atI (ns.map D.int) (k % ns.length) with|some (.int y)=>some (y % 2147483647)|_=>none) else some 11)=some sd:=by
    by_cases e:0 < (ns.length:Int)
    · have h1:=Int.emod_nonneg k (show (ns.length:Int)≠0 by omega)
      have h2:=Int.emod_lt_of_pos k e
      have h3:(k % ns.length).toNat < ns.length:=by omega
      have h4:=ul (f:=D.int) h3
      rw [show (((k % ns.length).toNat:Nat):Int)=k % ns.length by omega] at h4
      exact⟨_,by rw [if_pos e,h4]⟩
    · exact⟨11,by rw [if_neg e]⟩
  obtain⟨sd,hsd⟩:=seed
  obtain⟨σ',h',h1,h2,fv,a,b,h3⟩:=cZ (P:=fun _ σ h'=>h'=h ∧ ∃ fv a b,σ = [some (.lit (ns.map .int)),some (.int k),some (.int sd),some (.int fv),a,b]) (g:=none) (k:=0)
      (all:=(List.range 9).map fun k:Nat=>D.int k) (fun _ _ _ _=>trivial)
      (xs:=(List.range 9).map fun k:Nat=>D.int k) (tg:=gN 4) (σ:=[some (.lit (ns.map .int)),some (.int k),some (.int sd),some (.int 0),none,none]) (h:=h)
      (b:=jO) (by
      rintro i x σ h0 hx ⟨rfl,fv,a,b,rfl⟩
      obtain⟨hi,rfl⟩:=cO hx
      have j0:(0:Int)≤(i:Int):=by omega
      have j1:(i:Int) < 9:=by omega
      clear hx hi
      generalize ((i:Nat):Int)=j at j0 j1 ⊢
      have e1:sml 31=true:=jt (by omega) (by omega)
      have e2:sml 48271=true:=jt (by omega) (by omega)
      have e3:sml j=true:=jt (by omega) (by omega)
      have e4:sml 69621=true:=jt (by omega) (by omega)
      have e5:sml 2147483563=true:=jt (by omega) (by omega)
      have e6:∀ x:Int,sml (x % 2147483629 + 5)=true:=fun x=>jt (by have:=Int.emod_nonneg x (show (2147483629:Int)≠0 by omega);omega) (by have:=Int.emod_lt_of_pos x (show (0:Int) < 2147483629 by omega);omega)
      have e7:∀ x:Int,sml (x % 2147483563)=true:=fun x=>jt (Int.emod_nonneg x (by omega)) (by have:=Int.emod_lt_of_pos x (show (0:Int) < 2147483563 by omega);omega)
      obtain⟨fv',n',q⟩:=b5l (.lit (ns.map .int)) k sd fv j a b h0 e1 e2 e3 e4 e5 e6 e7
      exact⟨_,rfl,_,_,q,rfl,_,_,_,rfl⟩) ⟨rfl,_,_,_,rfl⟩
  subst h2 h3
  refine⟨fv,?_⟩
  by_cases e:0 < (ns.length:Int)
  · rw [if_pos e] at hsd
    cases q:atI (ns.map D.int) (k % ns.length) with
    | none=>rw [q] at hsd;cases hsd
    | some y =>
      cases y with
      | int y =>
        rw [q] at hsd
        have hsd:y % 2147483647=sd:=by simpa using hsd
        have e':0 < ns.length:=by omega
        simp [gf,bM,runB,e,e',q,hsd,h1]
      | _=>rw [q] at hsd;cases hsd
  · rw [if_neg e] at hsd
    have hsd:11=sd:=by simpa using hsd
    subst hsd
    have e' : ¬ 0 < ns.length:=by omega
    simp [gf,bM,runB,e,e',h1]
theorem ow (ns:List Int)(k:Nat)(hk:k≤1000)(h:Hd):∃ v,bB [.lit (ns.map .int),.int k] h=.ok (.int v) h:=by
  obtain⟨v,hv⟩:=GX ns k (by omega) h
  by_cases e:k < ns.length
  · have h0:0 < ns.length:=by omega
    have p0:=ul (f:=D.int) h0
    have pk:=ul (f:=D.int) e
    rw [show ((0:Nat):Int)=0 from rfl] at p0
    by_cases ev:ns[0] % 2=0
    · exact⟨ns[k],by simp [bB,bM,runB,e,p0,pk,ev,peq,dep]⟩
    · exact⟨v,by simp [bB,bM,runB,e,p0,pk,ev,peq,dep,hv]⟩
  · exact⟨v,by simp [bB,bM,runB,e,hv]⟩
theorem bj {h:Hd}{n:Nat}{x m:Int}(hn:h[n]? = some (.lst [.int x]))(hm:0 < m)(hm2:m < 2 ^ 250) :
    aw [.ref n,.int m] h=.ok (.int (x % m)) (h.set n (.lst [.int (x / m)])):=by
  have z:ixN 1 0=some 0:=by decide
  simp only [Int.reducePow] at hm2
  simp [aw,bM,runB,hn,hm,hm2,z]
theorem pick {α : Type}(f : α → D)(l:List α)(x m:Int)(hm:m=l.length)(h:0 < m):∃ v∈l,atI (l.map f) (x % m)=some (f v):=by
  have h1:=Int.emod_nonneg x (show m≠0 by omega)
  have h2:=Int.emod_lt_of_pos x h
  have h3:(x % m).toNat < l.length:=by omega
  refine⟨l[(x % m).toNat],List.getElem_mem h3,?_⟩
  have:=ul (f:=f) h3
  rwa [show (((x % m).toNat:Nat):Int)=x % m by omega] at this
theorem CB {h:Hd}{n:Nat}{x s:Int}(hn:h[n]? = some (.lst [.int x])):∃ v y,cV [.ref n,.int s] h=.ok (.int v) (h.set n (.lst [.int y]))∧0≤v∧v≤400:=by
  by_cases e0:s=0
  · have b0:=Int.emod_nonneg x (show (800:Int)≠0 by omega)
    have b1:=Int.emod_lt_of_pos x (show (0:Int) < 800 by omega)
    have e1:sml (x % 800)=true:=jt b0 (by omega)
    by_cases e2:x % 800 < 401
    · exact⟨x % 800,x / 800,by simp [cV,bM,runB,e0,peq,dep,bj hn,e1,e2],b0,by omega⟩
    · exact⟨0,x / 800,by simp [cV,bM,runB,e0,peq,dep,bj hn,e1,e2],by omega,by omega⟩
  · by_cases e1:s=1
    · obtain⟨v,hv,q⟩:=pick D.int [0,0,0,0,0,1,1,2,3] x 9 rfl (by omega)
      simp only [List.map_cons,List.map_nil] at q
      refine⟨v,x / 9,by simp [cV,bM,runB,e0,e1,peq,dep,bj hn,q],?_⟩
      simp at hv
      omega
    · obtain⟨v,hv,q⟩:=pick D.int [0,0,0,1] x 4 rfl (by omega)
      simp only [List.map_cons,List.map_nil] at q
      refine⟨v,x / 4,by simp [cV,bM,runB,e0,e1,peq,dep,bj hn,q],?_⟩
      simp at hv
      omega
def LOW:Int:=1 - 10 ^ 60
theorem Ju:LOW ≤ -10:=by decide
theorem Jv {h:Hd}{n:Nat}{x t:Int}(hn:h[n]? = some (.lst [.int x]))(t0:0≤t)(t1:t≤1000000):∃ v y,eU [.ref n,.int t] h=.ok (.int v) (h.set n (.lst [.int y]))∧LOW≤v:=by
  have hlt:n < h.length:=(List.getElem?_eq_some_iff.mp hn).1
  have hn2:(h.set n (.lst [.int (x / 6)]))[n]? = some (.lst [.int (x / 6)]):=by simp [hlt]
  have d1:=bj hn (show (0:Int) < 6 by omega) (by simp)
  have lo:=Ju
  by_cases e0:x % 6 < 2
  · exact⟨t,x / 6,by simp [eU,bM,runB,d1,e0],by omega⟩
  · by_cases e1:x % 6=2
    · have d2:=bj hn2 (show (0:Int) < 7 by omega) (by simp)
      exact⟨t - 3 + x / 6 % 7,x / 6 / 7,by simp [eU,bM,runB,d1,e0,e1,peq,dep,d2],by omega⟩
    · by_cases e2:x % 6 < 5
      · have d2:=bj hn2 (m:=2 * t + 5) (by omega) (by simp;omega)
        have s2:sml 2=true:=by decide
        have b0:=Int.emod_nonneg (x / 6) (show 2 * t + 5≠0 by omega)
        exact⟨x / 6 % (2 * t + 5) - 2,x / 6 / (2 * t + 5),by simp [eU,bM,runB,d1,e0,e1,e2,peq,dep,s2,d2],by omega⟩
      · have d2:=bj hn2 (m:=2 * 10 ^ 60 - 1) (by simp) (by simp)
        have s2:sml 2=true:=by decide
        have s10:sml 10=true:=by decide
        have b0:=Int.emod_nonneg (x / 6) (show (2 * 10 ^ 60 - 1:Int)≠0 by decide)
        have le:LOW≤x / 6 % (2 * 10 ^ 60 - 1) - 10 ^ 60 + 1:=by unfold LOW;omega
        refine⟨x / 6 % (2 * 10 ^ 60 - 1) - 10 ^ 60 + 1,x / 6 / (2 * 10 ^ 60 - 1),?_,le⟩
        simp at d2 ⊢
        simp [eU,bM,runB,d1,e0,e1,e2,peq,dep,s2,s10,d2]
structure WS (n:Nat) (R:Nat→List (Nat × Int)) (h:Hd):Prop where
  hd0:∃ x,h[0]? = some (.lst [.int x])
  st:∀ i,i < n → ∃ y,h[1 + i]? = some (.lst [.int y])
  sts:h[n + 1]? = some (.lst ((List.range n).map fun i=>.ref (1 + i)))
  ti:∀ i,i < n→h[n + 2 + i]? = some (.lst ((R i).map cK))
  tis:h[2 * n + 2]? = some (.lst ((List.range n).map fun i=>.ref (n + 2 + i)))
theorem WS.setSt {n:Nat}{R:Nat→List (Nat × Int)}{h:Hd}(w:WS n R h){i:Nat}(hi:i < n)(y:Int):WS n R (h.set (1 + i) (.lst [.int y])) where
  hd0:=by obtain⟨x,e⟩:=w.hd0;exact⟨x,by rw [List.getElem?_set_ne (by omega)];exact e⟩
  st:=fun j hj=>by
    obtain⟨z,e⟩:=w.st j hj
    by_cases q:i=j
    · subst q
      have:=(List.getElem?_eq_some_iff.mp e).1
      exact⟨y,by rw [List.getElem?_set_self this]⟩
    · exact⟨z,by rw [List.getElem?_set_ne (by omega)];exact e⟩
  sts:=by rw [List.getElem?_set_ne (by omega)];exact w.sts
  ti:=fun j hj=>by rw [List.getElem?_set_ne (by omega)];exact w.ti j hj
  tis:=by rw [List.getElem?_set_ne (by omega)];exact w.tis
def dw (R:Nat→List (Nat × Int)) (k:Nat) (p:Nat × Int):Nat→List (Nat × Int):=fun i=>if i=k then R i++[p] else R i
theorem WS.app {n:Nat}{R:Nat→List (Nat × Int)}{h:Hd}(w:WS n R h){i:Nat}(hi:i < n)(p:Nat × Int):WS n (dw R i p) (h.set (n + 2 + i) (.lst ((R i).map cK++[cK p]))) where
  hd0:=by obtain⟨x,e⟩:=w.hd0;exact⟨x,by rw [List.getElem?_set_ne (by omega)];exact e⟩
  st:=fun j hj=>by obtain⟨z,e⟩:=w.st j hj;exact⟨z,by rw [List.getElem?_set_ne (by omega)];exact e⟩
  sts:=by rw [List.getElem?_set_ne (by omega)];exact w.sts
  ti:=fun j hj=>by
    by_cases q:i=j
    · subst q
      have:=(List.getElem?_eq_some_iff.mp (w.ti i hj)).1
      rw [List.getElem?_set_self this]
      simp [dw]
    · rw [List.getElem?_set_ne (by omega),w.ti j hj,dw,if_neg (by omega)]
  tis:=by rw [List.getElem?_set_ne (by omega)];exact w.tis
theorem WS.more {n:Nat}{R:Nat→List (Nat × Int)}{h:Hd}(w:WS n R h)(c:Hd):WS n R (h++c):=by
  have k:∀ {i:Nat} {x:ec},h[i]? = some x→(h++c)[i]? = some x:=fun {i x} e=>by
    rw [List.getElem?_append_left (List.getElem?_eq_some_iff.mp e).1];exact e
  exact⟨let ⟨x,e⟩:=w.hd0;⟨x,k e⟩,fun i hi=>let ⟨x,e⟩:=w.st i hi;⟨x,k e⟩,k w.sts,fun i hi=>k (w.ti i hi),k w.tis⟩
structure ej (n:Nat) (c:Nat) (R:Nat→List (Nat × Int)):Prop where
  ris:∀ i,(R i).Pairwise fun p q=>p.1 < q.1
  lt:∀ i p,p∈R i→p.1 < n
  wt:∀ i p,p∈R i→1≤p.2∧p.2≤400
  len:∀ i,(R i).length≤c
  sym:∀ f s,S2 R f s n=S2 R s f n
theorem iF (R:Nat→List (Nat × Int))(f s:Nat→Int)(k:Nat)(p:Nat × Int):∀ n,S2 (dw R k p) f s n=S2 R f s n + (if k < n then p.2 * f p.1 * s k else 0)
  | 0=>by simp [S2]
  | n + 1=>by
    rw [S2,S2,iF R f s k p n]
    by_cases e:n=k
    · subst e
      simp [dw];omega
    · rw [dw,if_neg e]
      by_cases l:k < n
      · have:k < n + 1:=by omega
        simp [l,this];omega
      · have : ¬ k < n + 1:=by omega
        simp [l,this]
theorem dF {R:Nat→List (Nat × Int)}{k i:Nat}{q p:Nat × Int}(h:p∈dw R k q i):p∈R i∨p=q:=by
  unfold dw at h
  split at h
  · simpa using h
  · exact .inl h
theorem w8 {R:Nat→List (Nat × Int)}{k:Nat}{q:Nat × Int}(h:∀ i,(R i).Pairwise fun p q=>p.1 < q.1)(hq:∀ p∈R k,p.1 < q.1)(i:Nat):(dw R k q i).Pairwise fun p q=>p.1 < q.1:=by
  unfold dw
  split
  · rename_i e
    rw [List.pairwise_append]
    exact⟨h i,by simp,fun a ha b hb=>by simp at hb;subst hb;exact hq a (by rw [← e];exact ha)⟩
  · exact h i
theorem ej.put {n c:Nat}{R:Nat→List (Nat × Int)}(o:ej n c R){k j:Nat}(hk:k < n)(hj:j < n)(hjk:j≠k)(b1:∀ p∈R k,p.1 < j)(b2:∀ p∈R j,p.1 < k){v:Int}(h1:1≤v)(h2:v≤400):ej n (c + 2) (dw (dw R k (j,v)) j (k,v)) where
  ris:=w8 (w8 o.ris b1) fun p hp=>by
    rw [dw,if_neg hjk] at hp
    exact b2 p hp
  lt:=fun i p hp=>by
    rcases dF hp with hp|rfl
    · rcases dF hp with hp|rfl
      · exact o.lt _ _ hp
      · exact hj
    · exact hk
  wt:=fun i p hp=>by
    rcases dF hp with hp|rfl
    · rcases dF hp with hp|rfl
      · exact o.wt _ _ hp
      · exact⟨h1,h2⟩
    · exact⟨h1,h2⟩
  len:=fun i=>by
    have:=o.len i
    simp only [dw]
    split<;>split<;>simp<;>omega
  sym:=fun f s=>by
    rw [iF,iF,iF,iF,o.sym f s]
    simp only [hk,hj,if_true]
    have e1:v * f j * s k=v * s k * f j:=by rw [Int.mul_assoc,Int.mul_assoc,Int.mul_comm (f j)]
    have e2:v * f k * s j=v * s j * f k:=by rw [Int.mul_assoc,Int.mul_assoc,Int.mul_comm (f k)]
    rw [e1,e2];omega
theorem eV {a n i:Nat}(h:i < n):atI ((List.range n).map fun i=>D.ref (a + i)) (i:Int)=some (.ref (a + i)):=by
  refine cT ?_
  simp [h]
structure Mid (k j:Nat) (R:Nat→List (Nat × Int)):Prop where
  a:∀ i,k < i→R i=[]
  b:∀ p∈R k,p.1 < j
  c:∀ i,i < j → ∀ p∈R i,p.1≤k
  d:∀ i,j≤i→i < k → ∀ p∈R i,p.1 < k
theorem Mid.skip {k j:Nat}{R:Nat→List (Nat × Int)}(m:Mid k j R)(hj:j < k):Mid k (j + 1) R :=
  ⟨m.a,fun p hp=>Nat.lt_succ_of_lt (m.b p hp),fun i hi p hp=>by
    by_cases e:i < j
    · exact m.c i e p hp
    · exact Nat.le_of_lt (m.d i (by omega) (by omega) p hp),fun i h1 h2=>m.d i (by omega) h2⟩
theorem Mid.put {k j:Nat}{R:Nat→List (Nat × Int)}(m:Mid k j R)(hj:j < k)(v:Int):Mid k (j + 1) (dw (dw R k (j,v)) j (k,v)) where
  a:=fun i hi=>by rw [dw,if_neg (by omega),dw,if_neg (by omega)];exact m.a i hi
  b:=fun p hp=>by
    rw [dw,if_neg (by omega)] at hp
    rcases dF hp with hp|rfl
    · exact Nat.lt_succ_of_lt (m.b p hp)
    · exact Nat.lt_succ_self _
  c:=fun i hi p hp=>by
    rcases dF hp with hp|rfl
    · rw [dw,if_neg (by omega)] at hp
      by_cases e:i < j
      · exact m.c i e p hp
      · exact Nat.le_of_lt (m.d i (by omega) (by omega) p hp)
    · exact Nat.le_refl _
  d:=fun i h1 h2 p hp=>by
    rw [dw,if_neg (by omega),dw,if_neg (by omega)] at hp
    exact m.d i (by omega) h2 p hp
theorem EK {n k:Nat}{lit:D}{sort:Int}(hk:k < n)(hn:n≤30){R:Nat→List (Nat × Int)}{h:Hd}{c L:Nat}(hc:c + 2 * k≤100000)(w:WS n R h)(o:ej n c R)(mm:Mid k 0 R)(hL:h.length=L){a b:Option D} :
    ∃ a' b' R' h',gl none ((List.range k).map fun k:Nat=>D.int k) (gN 7) jo ((List.range k).map fun k:Nat=>D.int k)
      [some lit,some (.ref 0),some (.int n),some (.ref (n + 1)),some (.ref (2 * n + 2)),some (.int k),some (.int sort),a,b,none,none,none] h
      = .nx [some lit,some (.ref 0),some (.int n),some (.ref (n + 1)),some (.ref (2 * n + 2)),some (.int k),some (.int sort),a',b',none,none,none] h'∧WS n R' h'∧ej n (c + 2 * k) R'∧Mid k k R'∧h'.length=L:=by
  obtain⟨σ',h',h1,R',a',b',h2,h3,h4,hm,h5⟩:=cZ (P:=fun i σ h=>∃ R a b,σ = [some lit,some (.ref 0),some (.int n),some (.ref (n + 1)),some (.ref (2 * n + 2)),some (.int k),some (.int sort),a,b,none,none,none]∧WS n R h∧ej n (c + 2 * i) R∧Mid k i R∧h.length=L)
    (g:=none) (k:=0) (all:=(List.range k).map fun k:Nat=>D.int k) (fun _ _ _ _=>trivial) (xs:=(List.range k).map fun k:Nat=>D.int k) (tg:=gN 7) (b:=jo)
    (σ:=[some lit,some (.ref 0),some (.int n),some (.ref (n + 1)),some (.ref (2 * n + 2)),some (.int k),some (.int sort),a,b,none,none,none]) (h:=h) (by
      rintro i x σ h0 hx ⟨R,a,b,rfl,w,o,mm,hL⟩
      obtain⟨hi,rfl⟩:=cO hx
      rw [Nat.zero_add] at o mm ⊢
      obtain⟨y,ey⟩:=w.st k hk
      obtain⟨v,y',ev,v0,v1⟩:=CB (s:=sort) ey
      have w1:=w.setSt hk y'
      have hkn:=hk
      have r1:=eV (a:=1) hk
      have r2:=eV (a:=n + 2) hk
      have hin:i < n:=by omega
      have r3:=eV (a:=n + 2) hin
      refine⟨_,rfl,?_⟩
      by_cases e:0 < v
      · have len1:=o.len k
        have len2:=o.len i
        have t1:=w1.ti k hk
        have w2:=w1.app hk (i,v)
        have o2:=o.put hk hin (by omega) mm.b (mm.d i (Nat.le_refl _) hi) (show 1≤v by omega) v1
        have t2:=w2.ti i hin
        have w3:=w2.app hin (k,v)
        have l1:((R k).map cK).length < 1000000:=by simp;omega
        have l2:(((dw R k (i,v)) i).map cK).length < 1000000:=by
          simp only [dw];split<;>simp<;>omega
        simp only [cK] at t1 t2 l1 l2
        refine⟨[some lit,some (.ref 0),some (.int n),some (.ref (n + 1)),some (.ref (2 * n + 2)),some (.int k),some (.int sort),some (.int i),some (.int v),none,none,none],_,?_,_,_,_,rfl,w3,by rw [show c + 2 * (i + 1)=c + 2 * i + 2 by omega];exact o2,mm.put hi v,?_⟩
        · have s1:=w.sts
          have s2:=w1.tis
          have s3:=w2.tis
          simp only [cK] at s3
          simp [-List.length_map,SZ,jo,s1,r1,ev,e,s2,r2,t1,l1,s3,r3,t2,l2,cK]
        · simp [hL]
      · refine⟨[some lit,some (.ref 0),some (.int n),some (.ref (n + 1)),some (.ref (2 * n + 2)),some (.int k),some (.int sort),some (.int i),some (.int v),none,none,none],_,?_,R,_,_,rfl,w1,⟨o.ris,o.lt,o.wt,fun j=>by have:=o.len j;omega,o.sym⟩,mm.skip hi,by simp [hL]⟩
        simp [jo,w.sts,r1,ev,e]) ⟨R,a,b,rfl,w,o,mm,hL⟩
  refine⟨a',b',R',h',?_,h3,?_,?_,h5⟩
  · rw [h1,h2]
  · simpa using h4
  · simpa using hm
theorem ej.le {n c d:Nat}{R:Nat→List (Nat × Int)}(o:ej n c R)(h:c≤d):ej n d R:=⟨o.ris,o.lt,o.wt,fun j=>Nat.le_trans (o.len j) h,o.sym⟩
theorem EL {n:Nat}{lit:D}(hn:n≤30){R:Nat→List (Nat × Int)}{h:Hd}{L:Nat}(w:WS n R h)(o:ej n 0 R)(mm:∀ i,R i=[])(hL:h.length=L) :
    ∃ a b c d R' h',gl none ((List.range n).map fun k:Nat=>D.int k) (gN 5) kT ((List.range n).map fun k:Nat=>D.int k)
      [some lit,some (.ref 0),some (.int n),some (.ref (n + 1)),some (.ref (2 * n + 2)),none,none,none,none,none,none,none] h
      = .nx [some lit,some (.ref 0),some (.int n),some (.ref (n + 1)),some (.ref (2 * n + 2)),a,b,c,d,none,none,none] h'∧WS n R' h'∧ej n (60 * n) R'∧h'.length=L:=by
  obtain⟨σ',h',h1,R',a,b,c,d,h2,h3,h4,-,h5⟩:=cZ (P:=fun i σ h=>∃ R a b c d,σ = [some lit,some (.ref 0),some (.int n),some (.ref (n + 1)),some (.ref (2 * n + 2)),a,b,c,d,none,none,none]∧WS n R h∧ej n (60 * i) R∧Mid i 0 R∧h.length=L)
    (g:=none) (k:=0) (all:=(List.range n).map fun k:Nat=>D.int k) (fun _ _ _ _=>trivial) (xs:=(List.range n).map fun k:Nat=>D.int k) (tg:=gN 5) (b:=kT)
    (σ:=[some lit,some (.ref 0),some (.int n),some (.ref (n + 1)),some (.ref (2 * n + 2)),none,none,none,none,none,none,none]) (h:=h) (by
      rintro i x σ h0 hx ⟨R,a,b,c,d,rfl,w,o,mm,hL⟩
      obtain⟨hi,rfl⟩:=cO hx
      rw [Nat.zero_add] at o mm ⊢
      obtain⟨y,ey⟩:=w.st i hi
      have e1:=bj ey (show (0:Int) < 3 by omega) (by simp)
      have w1:=w.setSt hi (y / 3)
      have r1:=eV (a:=1) hi
      obtain⟨a',b',R',h',q1,q2,q3,qm,q4⟩:=EK (lit:=lit) (sort:=y % 3) hi hn (c:=60 * i) (by omega) w1 o mm (L:=L) (by simpa using hL) (a:=c) (b:=d)
      have qm':Mid (i + 1) 0 R':=by
        refine⟨fun j hj=>qm.a j (by omega),fun p hp => ?_,fun j hj=>by omega,fun j _ hj p hp => ?_⟩
        · rw [qm.a (i + 1) (by omega)] at hp;cases hp
        · by_cases e:j < i
          · have:=qm.c j e p hp;omega
          · have:j=i:=by omega
            subst this
            have:=qm.b p hp;omega
      refine⟨_,rfl,[some lit,some (.ref 0),some (.int n),some (.ref (n + 1)),some (.ref (2 * n + 2)),some (.int i),some (.int (y % 3)),a',b',none,none,none],h',?_,R',_,_,_,_,rfl,q2,q3.le (by omega),qm',q4⟩
      have z1 : -1000000≤(i:Int):=by omega
      have z2:(i:Int)≤1000000:=by omega
      simp [kT,w.sts,r1,e1,z1,z2,q1]) ⟨R,_,_,_,_,rfl,w,o,⟨fun i _=>mm i,fun p hp=>(by rw [mm] at hp;cases hp),fun i hi=>(by omega),fun i _ hi=>(by omega)⟩,hL⟩
  refine⟨a,b,c,d,R',h',?_,h3,?_,h5⟩
  · rw [h1,h2]
  · simpa using h4
theorem EM (l:List (Nat × Int))(h:∀ p∈l,1≤p.2∧p.2≤400):0≤(l.map (·.2)).sum∧(l.map (·.2)).sum≤400 * l.length:=by
  induction l with
  | nil=>simp
  | cons p l ih =>
    have h1:=h p (by simp)
    have h2:=ih fun q hq=>h q (by simp [hq])
    simp
    omega
def free (ss:List (Option Int)):Nat:=ss.countP fun x=>x.isNone
structure WB (n:Nat) (R:Nat→List (Nat × Int)) (i:Nat) (bs:List Int) (ss:List (Option Int)) (h:Hd):Prop where
  w:WS n R h
  hb:h[2 * n + 3]? = some (.lst (bs.map .int))
  hs:h[2 * n + 4]? = some (.lst (ss.map bz))
  lb:bs.length=i
  ls:ss.length=i
  os:∀ x∈ss,x=none∨x=some 0∨x=some 1
  fr:free ss≤8
  bl:∀ x∈bs,LOW≤x
theorem pE (ss:List (Option Int)):(ss.map bz).countP (fun z=>eqF z .non)=free ss:=by
  rw [List.countP_map,free]
  congr 1
  funext x
  cases x<;>rfl
theorem sO (ss:List (Option Int)):(ss.map bz).all bY=true:=by
  rw [List.all_map,List.all_eq_true]
  intro x _
  cases x<;>rfl
theorem ml {σ:Sd}{h:Hd}{k m:Nat}{ss:List (Option Int)}(e : σ[m]? = some (some (.ref k)))(hk:h[k]? = some (.lst (ss.map bz))):eC (aa m) (fC .non) σ h=.ok (.int (free ss)) h:=by
  have e1:aa m σ h=.ok (.ref k) h:=by simp [aa,slot,e]
  have e2:cI h (.ref k)=some (ss.map bz):=by simp [cI,hk]
  have e3:(bY .non && (ss.map bz).all bY)=true:=by rw [sO];rfl
  show ((aa m) σ h).bind _=_
  rw [e1]
  show (match cI h (.ref k) with|some _=>_|none=>_)=_
  rw [e2]
  show (match cI h (.ref k) with|some _=>_|none=>_)=_
  rw [e2]
  show (if (bY .non && (ss.map bz).all bY)=true then _ else _)=_
  rw [if_pos e3,pE]
theorem GY {n:Nat}{lit:D}(hn:n≤30){R:Nat→List (Nat × Int)}(o:ej n 1800 R){h:Hd}{a b c d e:Option D}(w:WB n R 0 [] [] h) :
    ∃ a' b' c' d' e' bs ss h',gl none ((List.range n).map fun k:Nat=>D.int k) (gN 5) kS ((List.range n).map fun k:Nat=>D.int k)
      [some lit,some (.ref 0),some (.int n),some (.ref (n + 1)),some (.ref (2 * n + 2)),a,b,c,d,some (.ref (2 * n + 3)),some (.ref (2 * n + 4)),e] h
      = .nx [some lit,some (.ref 0),some (.int n),some (.ref (n + 1)),some (.ref (2 * n + 2)),a',b',c',d',some (.ref (2 * n + 3)),some (.ref (2 * n + 4)),e'] h'∧WB n R n bs ss h':=by
  obtain⟨σ',h',h1,bs,ss,a',b',c',d',e',h2,h3⟩:=cZ (P:=fun i σ h=>∃ bs ss a b c d e,σ = [some lit,some (.ref 0),some (.int n),some (.ref (n + 1)),some (.ref (2 * n + 2)),a,b,c,d,some (.ref (2 * n + 3)),some (.ref (2 * n + 4)),e]∧WB n R i bs ss h)
    (g:=none) (k:=0) (all:=(List.range n).map fun k:Nat=>D.int k) (fun _ _ _ _=>trivial) (xs:=(List.range n).map fun k:Nat=>D.int k) (tg:=gN 5) (b:=kS)
    (σ:=[some lit,some (.ref 0),some (.int n),some (.ref (n + 1)),some (.ref (2 * n + 2)),a,b,c,d,some (.ref (2 * n + 3)),some (.ref (2 * n + 4)),e]) (h:=h) (by
      rintro i x σ h0 hx ⟨bs,ss,a,b,c,d,e,rfl,B⟩
      obtain⟨hi,rfl⟩:=cO hx
      rw [Nat.zero_add] at B ⊢
      have w:=B.w
      obtain⟨y,ey⟩:=w.st i hi
      have r1:=eV (a:=1) hi
      have r2:=eV (a:=n + 2) hi
      have ti:=w.ti i hi
      have comp:bQ (some (n + 2 + i)) ((R i).map cK) (gT [0,1]) [] (aa 1) ((R i).map cK) [none,none] h0=.ok (((R i).map (·.2)).map D.int) h0:=by
        have:=bJ (g:=some (n + 2 + i)) (all:=(R i).map cK) (tg:=gT [0,1]) (cs:=[]) (e:=aa 1) (h:=h0) (I:=fun σ=>∃ a b,σ = [a,b]) (fun _=>true) (fun d=>match d with | .tup [_,x]=>x|_=>.non) ti (xs:=(R i).map cK) (σ:=[none,none]) (by
          rintro x hx σ ⟨a,b,rfl⟩
          obtain⟨q,hq,rfl⟩:=List.mem_map.mp hx
          exact⟨_,rfl,⟨_,_,rfl⟩,rfl,fun _=>rfl⟩) ⟨_,_,rfl⟩
        rw [this,List.filter_eq_self.mpr (by simp),List.map_map,List.map_map]
        rfl
      have sl:=EM (R i) fun p hp=>o.wt i p hp
      have ln:=o.len i
      obtain⟨v,y',e1,vlow⟩:=Jv (t:=((R i).map (·.2)).sum) ey sl.1 (by omega)
      have w1:=w.setSt hi y'
      have hb1:(h0.set (1 + i) (.lst [.int y']))[2 * n + 3]? = some (.lst (bs.map .int)):=by rw [List.getElem?_set_ne (by omega)];exact B.hb
      have lt3:=(List.getElem?_eq_some_iff.mp B.hb).1
      have lt4:=(List.getElem?_eq_some_iff.mp B.hs).1
      have lbz:bs.length < 1000000:=by have:=B.lb;omega
      have lsz:ss.length < 1000000:=by have:=B.ls;omega
      obtain⟨h2,hh2⟩ : ∃ h2,h2=(h0.set (1 + i) (.lst [.int y'])).set (2 * n + 3) (.lst (bs.map .int++[.int v])):=⟨_,rfl⟩
      have g2:∀ {j:Nat},j≠2 * n + 3→h2[j]? = (h0.set (1 + i) (.lst [.int y']))[j]? := fun {j} hj=>by rw [hh2,List.getElem?_set_ne (by omega)]
      have w2:WS n R h2:=by
        refine⟨?_,fun j hj => ?_,?_,fun j hj => ?_,?_⟩
        · obtain⟨x,e⟩:=w1.hd0;exact⟨x,by rw [g2 (by omega)];exact e⟩
        · obtain⟨x,e⟩:=w1.st j hj;exact⟨x,by rw [g2 (by omega)];exact e⟩
        · rw [g2 (by omega)];exact w1.sts
        · rw [g2 (by omega)];exact w1.ti j hj
        · rw [g2 (by omega)];exact w1.tis
      obtain⟨z,ez⟩:=w2.st i hi
      have e2:=bj ez (show (0:Int) < 7 by omega) (by simp)
      obtain⟨u,hu,q⟩:=pick bz [none,none,none,none,none,some 0,some 1] z 7 rfl (by omega)
      have q:atI [D.non,.non,.non,.non,.non,.int 0,.int 1] (z % 7)=some (bz u):=q
      have w3:=w2.setSt hi (z / 7)
      obtain⟨h3,hh3⟩ : ∃ h3,h3=h2.set (1 + i) (.lst [.int (z / 7)]):=⟨_,rfl⟩
      rw [← hh3] at w3 e2
      have hs3:h3[2 * n + 4]? = some (.lst (ss.map bz)):=by
        rw [hh3,List.getElem?_set_ne (by omega),g2 (by omega),List.getElem?_set_ne (by omega)];exact B.hs
      have hb3:h3[2 * n + 3]? = some (.lst ((bs++[v]).map .int)):=by
        rw [hh3,List.getElem?_set_ne (by omega),hh2,List.getElem?_set_self (by simpa using lt3)];simp
      obtain⟨z',ez'⟩:=w3.st i hi
      have e3:=bj ez' (show (0:Int) < 2 by omega) (by simp)
      have st1:gQ (ik (aa 9) (ar eU (af (fAt (aa 3) (aa 5)) (af (kI (bF 2 [] (eW (fAt (aa 4) (aa 5))) (gT [0,1]) [] (aa 1))) aq))))
          [some lit,some (.ref 0),some (.int n),some (.ref (n + 1)),some (.ref (2 * n + 2)),some (.int i),b,c,d,some (.ref (2 * n + 3)),some (.ref (2 * n + 4)),e] h0
          = .nx [some lit,some (.ref 0),some (.int n),some (.ref (n + 1)),some (.ref (2 * n + 2)),some (.int i),b,c,d,some (.ref (2 * n + 3)),some (.ref (2 * n + 4)),e] h2:=by
        rw [hh2]
        simp [SZ,w.sts,w.tis,r1,r2,ti,comp,jN,e1,hb1,lbz,B.hb,-List.map_map]
      have st2:aT (gN 11) (fIx (af (fC .non) (af (fC .non) (af (fC .non) (af (fC .non) (af (fC .non) (af (fC (.int 0)) (af (fC (.int 1)) aq))))))) (ar aw (af (fAt (aa 3) (aa 5)) (af (fC (.int 7)) aq))))
          [some lit,some (.ref 0),some (.int n),some (.ref (n + 1)),some (.ref (2 * n + 2)),some (.int i),b,c,d,some (.ref (2 * n + 3)),some (.ref (2 * n + 4)),e] h2
          = .nx [some lit,some (.ref 0),some (.int n),some (.ref (n + 1)),some (.ref (2 * n + 2)),some (.int i),b,c,d,some (.ref (2 * n + 3)),some (.ref (2 * n + 4)),some (bz u)] h3:=by
        simp [w2.sts,r1,e2,q]
      have st3:∃ (u':Option Int) (h4:Hd),(sIf (iX (tE (ak Gg (aa 11) (fC .non))) (tE (ak oGt (eC (aa 10) (fC .non)) (fC (.int 7))))) (aT (gN 11) (ar aw (af (fAt (aa 3) (aa 5)) (af (fC (.int 2)) aq)))) b9)
          [some lit,some (.ref 0),some (.int n),some (.ref (n + 1)),some (.ref (2 * n + 2)),some (.int i),b,c,d,some (.ref (2 * n + 3)),some (.ref (2 * n + 4)),some (bz u)] h3
          = .nx [some lit,some (.ref 0),some (.int n),some (.ref (n + 1)),some (.ref (2 * n + 2)),some (.int i),b,c,d,some (.ref (2 * n + 3)),some (.ref (2 * n + 4)),some (bz u')] h4
          ∧ (u'=none∨u'=some 0∨u'=some 1)∧free (ss++[u'])≤8 ∧ ∃ z',h4=h3.set (1 + i) (.lst [.int z']):=by
        have self:∃ z',h3=h3.set (1 + i) (.lst [.int z']):=by
          refine⟨z',?_⟩
          apply List.ext_getElem?
          intro j
          by_cases ij:1 + i=j
          · subst ij;rw [List.getElem?_set_self (List.getElem?_eq_some_iff.mp ez').1];exact ez'
          · rw [List.getElem?_set_ne ij]
        have hu':u=none∨u=some 0∨u=some 1:=by simpa using hu
        cases u with
        | some k=>exact⟨some k,h3,by simp [bz],hu',by have:=B.fr;simpa [free] using this,self⟩
        | none =>
          by_cases c7:7 < free ss
          · have c7':(7:Int) < (free ss:Int):=by omega
            have b0:=Int.emod_nonneg z' (show (2:Int)≠0 by omega)
            have b1:=Int.emod_lt_of_pos z' (show (0:Int) < 2 by omega)
            refine⟨some (z' % 2),h3.set (1 + i) (.lst [.int (z' / 2)]),?_,?_,by have:=B.fr;simpa [free] using this,_,rfl⟩
            · have fc:=ml (m:=10) (σ:=[some lit,some (.ref 0),some (.int n),some (.ref (n + 1)),some (.ref (2 * n + 2)),some (.int i),b,c,d,some (.ref (2 * n + 3)),some (.ref (2 * n + 4)),some .non]) rfl hs3
              simp [-eC,bz,fc,c7',w3.sts,r1,e3]
            · by_cases zz:z' % 2=0
              · rw [zz];simp
              · have:z' % 2=1:=by omega
                rw [this];simp
          · have c7' : ¬ (7:Int) < (free ss:Int):=by omega
            refine⟨none,h3,?_,.inl rfl,by simp only [free] at c7 ⊢;simp;omega,self⟩
            have fc:=ml (m:=10) (σ:=[some lit,some (.ref 0),some (.int n),some (.ref (n + 1)),some (.ref (2 * n + 2)),some (.int i),b,c,d,some (.ref (2 * n + 3)),some (.ref (2 * n + 4)),some .non]) rfl hs3
            simp [-eC,bz,fc,c7']
      obtain⟨u',h4,st3,ou,fu,z4,hh4⟩:=st3
      have w4:=w3.setSt hi z4
      rw [← hh4] at w4
      have hs4:h4[2 * n + 4]? = some (.lst (ss.map bz)):=by rw [hh4,List.getElem?_set_ne (by omega)];exact hs3
      have hb4:h4[2 * n + 3]? = some (.lst ((bs++[v]).map .int)):=by rw [hh4,List.getElem?_set_ne (by omega)];exact hb3
      have lt5:=(List.getElem?_eq_some_iff.mp hs4).1
      have st4:gQ (ik (aa 10) (aa 11)) [some lit,some (.ref 0),some (.int n),some (.ref (n + 1)),some (.ref (2 * n + 2)),some (.int i),b,c,d,some (.ref (2 * n + 3)),some (.ref (2 * n + 4)),some (bz u')] h4
          = .nx [some lit,some (.ref 0),some (.int n),some (.ref (n + 1)),some (.ref (2 * n + 2)),some (.int i),b,c,d,some (.ref (2 * n + 3)),some (.ref (2 * n + 4)),some (bz u')] (h4.set (2 * n + 4) (.lst (ss.map bz++[bz u']))):=by
        simp [SZ,hs4,lsz]
      refine⟨_,rfl,[some lit,some (.ref 0),some (.int n),some (.ref (n + 1)),some (.ref (2 * n + 2)),some (.int i),b,c,d,some (.ref (2 * n + 3)),some (.ref (2 * n + 4)),some (bz u')],h4.set (2 * n + 4) (.lst (ss.map bz++[bz u'])),?_,bs++[v],ss++[u'],_,_,_,_,_,rfl,?_⟩
      · unfold kS
        show aE _ _ [some lit,some (.ref 0),some (.int n),some (.ref (n + 1)),some (.ref (2 * n + 2)),some (.int i),b,c,d,some (.ref (2 * n + 3)),some (.ref (2 * n + 4)),e] h0=_
        rw [dj st1,dj st2,dj st3,st4]
      · refine⟨⟨?_,fun j hj => ?_,?_,fun j hj => ?_,?_⟩,?_,?_,by simp [B.lb],by simp [B.ls],fun x hx => ?_,fu,fun x hx => ?_⟩
        · obtain⟨x,e⟩:=w4.hd0;exact⟨x,by rw [List.getElem?_set_ne (by omega)];exact e⟩
        · obtain⟨x,e⟩:=w4.st j hj;exact⟨x,by rw [List.getElem?_set_ne (by omega)];exact e⟩
        · rw [List.getElem?_set_ne (by omega)];exact w4.sts
        · rw [List.getElem?_set_ne (by omega)];exact w4.ti j hj
        · rw [List.getElem?_set_ne (by omega)];exact w4.tis
        · rw [List.getElem?_set_ne (by omega)];exact hb4
        · rw [List.getElem?_set_self lt5];simp
        · rcases List.mem_append.mp hx with hx|hx
          · exact B.os x hx
          · simp at hx;subst hx;exact ou
        · rcases List.mem_append.mp hx with hx|hx
          · exact B.bl x hx
          · simp at hx;subst hx;exact vlow) ⟨[],[],_,_,_,_,_,rfl,w⟩
  refine⟨a',b',c',d',e',bs,ss,h',?_,?_⟩
  · rw [h1,h2]
  · simpa using h3
def toL (p:Nat × Int):List Int:=[(p.1:Int),p.2]
theorem xa (r:List (Nat × Int)):nT (r.map cK)=some (r.map toL):=by
  induction r with
  | nil=>rfl
  | cons p r ih=>simp [nT,cK,eA,ih,toL]
theorem EN:∀ {r:List (Nat × Int)},(r.Pairwise fun p q=>p.1 < q.1)→tN (r.map toL)=true
  | [],_=>rfl
  | [_],_=>rfl
  | p :: q :: r,h=>by
    have h1:p.1 < q.1:=(List.pairwise_cons.mp h).1 q (by simp)
    have h2:=EN (List.pairwise_cons.mp h).2
    have e : ¬ (q.1:Int)=p.1:=by omega
    have e' : ¬ (q.1:Int) < p.1:=by omega
    simp only [List.map_cons] at h2 ⊢
    simp [tN,h2]
    simp [toL,bP,e,e']
theorem Bs {n:Nat}:∀ {r:List (Nat × Int)} {m:Nat},(r.Pairwise fun p q=>p.1 < q.1)→(∀ p∈r,m≤p.1∧p.1 < n)→r.length + m≤max n m
  | [],m,_,_=>by simp;omega
  | p :: r,m,h,b=>by
    have hp:=b p (by simp)
    have:=Bs (m:=p.1 + 1) (List.pairwise_cons.mp h).2 fun q hq=>⟨(List.pairwise_cons.mp h).1 q hq,(b q (by simp [hq])).2⟩
    simp;omega
theorem Bt {n:Nat}(hn:n≤30){r:List (Nat × Int)}(h:r.Pairwise fun p q=>p.1 < q.1)(b:∀ p∈r,p.1 < n):r.length < 64∧tN (r.map toL)=true∧(r.map toL).all (fun x => !x.isEmpty)=true:=by
  have:=Bs (m:=0) h fun p hp=>⟨Nat.zero_le _,b p hp⟩
  refine⟨by omega,EN h,?_⟩
  rw [List.all_map,List.all_eq_true]
  intro p _
  rfl
structure Jw (ns:List Int) (n:Nat) (w:Web) (h:Hd):Prop where
  run:iC [.lit (ns.map .int)] []=.ok (.tup [w.enc,.ref (n + 1),.ref 0]) h
  n1:1≤n
  n30:n≤30
  ok:w.Ok n
  st:∀ x∈w.stays,x=none∨x=some 0∨x=some 1
  hd0:∃ x,h[0]? = some (.lst [.int x])
  hst:∀ i,i < n → ∃ y,h[1 + i]? = some (.lst [.int y])
  sts:h[n + 1]? = some (.lst ((List.range n).map fun i=>.ref (1 + i)))
  sym:∀ f s,S2 (fun i=>w.ties.getD i []) f s n=S2 (fun i=>w.ties.getD i []) s f n
  wt:∀ r∈w.ties,∀ p∈r,1≤p.2∧p.2≤400
  fr:free w.stays≤8
  ris:∀ r∈w.ties,r.Pairwise fun p q=>p.1 < q.1
  bl:∀ x∈w.bars,LOW≤x
theorem xb {R R':Nat→List (Nat × Int)}(f s:Nat→Int):∀ n,(∀ i,i < n→R i=R' i)→S2 R f s n=S2 R' f s n
  | 0,_=>rfl
  | n + 1,h=>by rw [S2,S2,xb f s n fun i hi=>h i (by omega),h n (by omega)]
theorem Jx (ns:List Int):∃ n w h,Jw ns n w h:=by
  obtain⟨v0,c0⟩:=ow ns 0 (by omega) []
  have c0:bB [.lit (ns.map .int),.int 0] []=.ok (.int v0) []:=c0
  have hm:∃ m:Int,0 < m∧m≤30∧atI [D.int 7,.int 7,.int 12,.int 30] (v0 / 2 % 4)=some (.int m):=by
    obtain⟨v,hv,q⟩:=pick D.int [7,7,12,30] (v0 / 2) 4 rfl (by omega)
    simp at hv
    exact⟨v,by omega,by omega,q⟩
  obtain⟨m,m0,m1,em⟩:=hm
  have d1:=bj (h:=[.lst [.int (v0 / 2)]]) (n:=0) (x:=v0 / 2) rfl (show (0:Int) < 4 by omega) (by simp)
  have d2:=bj (h:=[.lst [.int (v0 / 2 / 4)]]) (n:=0) (x:=v0 / 2 / 4) rfl m0 (by simp;omega)
  have b0:=Int.emod_nonneg (v0 / 2 / 4) (show m≠0 by omega)
  have b1:=Int.emod_lt_of_pos (v0 / 2 / 4) m0
  obtain⟨n,hn⟩ : ∃ n:Nat,(n:Int)=1 + v0 / 2 / 4 % m:=⟨(1 + v0 / 2 / 4 % m).toNat,by omega⟩
  obtain⟨x1,hx1⟩ : ∃ x1,x1=v0 / 2 / 4 / m:=⟨_,rfl⟩
  have n1:1≤n:=by omega
  have n30:n≤30:=by omega
  obtain⟨ds,h1,k1,l1,v1,σ1,q1,hh1,g0,g1⟩:=gc (g:=none) (all:=(List.range n).map fun k:Nat=>D.int k) (tg:=gN 0) (xs:=(List.range n).map fun k:Nat=>D.int k) (k:=0)
    (e:=cj (af (ar bB (af (aa 1) (af (ak bT (fC (.int 1)) (aa 0)) aq))) aq)) (σ:=[none,some (.lit (ns.map .int))]) (h:=[.lst [.int x1]])
    (P:=fun i σ h=>(∃ a,σ = [a,some (.lit (ns.map .int))])∧h.length=1 + i∧h[0]? = some (.lst [.int x1]) ∧ ∀ j,j < i → ∃ y,h[1 + j]? = some (.lst [.int y])) (V:=fun i d=>d=.ref (1 + i)) (fun _ _ _ _=>trivial) (by
      rintro i x σ h0 hx ⟨⟨a,rfl⟩,hl,e0,e1⟩
      obtain⟨hi,rfl⟩:=cO hx
      rw [Nat.zero_add] at hl e1 ⊢
      obtain⟨y,ey⟩:=ow ns (1 + i) (by omega) h0
      have ey':bB [.lit (ns.map .int),.int (1 + (i:Int))] h0=.ok (.int y) h0:=by rw [← ey];simp
      refine⟨_,rfl,.ref h0.length,h0++[.lst [.int y]],by simp [SZ,ey'],by rw [hl],⟨_,rfl⟩,by simp [hl];omega,?_,fun j hj => ?_⟩
      · rw [List.getElem?_append_left (by omega)];exact e0
      · by_cases hji:j < i
        · obtain⟨z,ez⟩:=e1 j hji
          exact⟨z,by rw [List.getElem?_append_left (by omega)];exact ez⟩
        · have:j=i:=by omega
          subst this
          exact⟨y,by rw [List.getElem?_append_right (by omega)];simp [hl]⟩) ⟨⟨_,rfl⟩,rfl,rfl,fun j hj=>by omega⟩
  simp at l1 hh1 g1
  have e1:ds=(List.range n).map fun i=>.ref (1 + i):=iy l1 fun i d hd=>by simpa using v1 i d hd
  subst e1
  obtain⟨ds,h2,k2,l2,v2,σ2,q2,hh2,g2,g3⟩:=gc (g:=none) (all:=(List.range n).map fun k:Nat=>D.int k) (tg:=gN 0) (xs:=(List.range n).map fun k:Nat=>D.int k) (k:=0)
    (e:=cj aq) (σ:=[none]) (h:=h1++[.lst ((List.range n).map fun i=>.ref (1 + i))])
    (P:=fun i σ h=>(∃ a,σ = [a])∧h.length=n + 2 + i∧(∀ j,j < n + 2→h[j]? = (h1++[.lst ((List.range n).map fun i=>.ref (1 + i))])[j]?) ∧ ∀ j,j < i→h[n + 2 + j]? = some (.lst [])) (V:=fun i d=>d=.ref (n + 2 + i)) (fun _ _ _ _=>trivial) (by
      rintro i x σ h0 hx ⟨⟨a,rfl⟩,hl,e0,e1⟩
      obtain⟨hi,rfl⟩:=cO hx
      rw [Nat.zero_add] at hl e1 ⊢
      refine⟨_,rfl,.ref h0.length,h0++[.lst []],by simp [SZ],by rw [hl],⟨_,rfl⟩,by simp [hl];omega,fun j hj => ?_,fun j hj => ?_⟩
      · rw [List.getElem?_append_left (by omega)];exact e0 j hj
      · by_cases hji:j < i
        · rw [List.getElem?_append_left (by omega)];exact e1 j hji
        · have:j=i:=by omega
          subst this
          rw [List.getElem?_append_right (by omega)];simp [hl]) ⟨⟨_,rfl⟩,by simp [hh1];omega,fun j _=>rfl,fun j hj=>by omega⟩
  simp at l2 hh2 g3
  have e2:ds=(List.range n).map fun i=>.ref (n + 2 + i):=iy l2 fun i d hd=>by simpa using v2 i d hd
  subst e2
  have W0:WS n (fun _=>[]) (h2++[.lst ((List.range n).map fun i=>.ref (n + 2 + i))]):=by
    have old:∀ {j:Nat} {c:ec},j < n + 1→h1[j]? = some c→(h2++[.lst ((List.range n).map fun i=>.ref (n + 2 + i))])[j]? = some c:=fun {j c} hj e=>by
      rw [List.getElem?_append_left (by omega),g2 j (by omega),List.getElem?_append_left (by omega)];exact e
    refine⟨⟨x1,old (by omega) g0⟩,fun i hi => ?_,?_,fun i hi => ?_,?_⟩
    · obtain⟨y,ey⟩:=g1 i hi
      exact⟨y,old (by omega) ey⟩
    · rw [List.getElem?_append_left (by omega),g2 (n + 1) (by omega),List.getElem?_append_right (by omega),show n + 1 - h1.length=0 by omega];rfl
    · rw [List.getElem?_append_left (by omega),g3 i hi];rfl
    · rw [List.getElem?_append_right (by omega),show 2 * n + 2 - h2.length=0 by omega];rfl
  have O0:ej n 0 (fun _=>[]):=⟨by simp,by simp,by simp,by simp,fun f s=>by
    have:∀ f s k,S2 (fun _=>[]) f s k=0:=fun f s k=>by induction k with
      | zero=>rfl
      | succ k ih=>simp [S2,ih]
    rw [this,this]⟩
  obtain⟨a,b,c,d,R,h3,k3,W3,O3,L3⟩:=EL (lit:=.lit (ns.map .int)) n30 W0 O0 (fun _=>rfl) (L:=2 * n + 3) (by simp [hh2];omega)
  have W4:WB n R 0 [] [] (h3++[.lst []]++[.lst []]):=⟨(W3.more _).more _,by
      rw [List.getElem?_append_left (by simp [L3]),List.getElem?_append_right (by omega)];simp [L3],by
      rw [List.getElem?_append_right (by simp [L3])];simp [L3],rfl,rfl,by simp,by simp [free],by simp⟩
  obtain⟨a',b',c',d',e',bs,ss,h5,k5,W5⟩:=GY (lit:=.lit (ns.map .int)) n30 (O3.le (by omega)) (a:=a) (b:=b) (c:=c) (d:=d) (e:=none) W4
  have comp:bQ (some (2 * n + 2)) ((List.range n).map fun i=>.ref (n + 2 + i)) (gN 0) [] (cY (lJ (aa 0))) ((List.range n).map fun i=>.ref (n + 2 + i)) [none] h5
      = .ok (((List.range n).map fun i=>(R i)).map lU) h5:=by
    have:=bJ (g:=some (2 * n + 2)) (all:=(List.range n).map fun i=>.ref (n + 2 + i)) (tg:=gN 0) (cs:=[]) (e:=cY (lJ (aa 0))) (h:=h5) (I:=fun σ=>∃ a,σ = [a]) (fun _=>true)
      (fun d=>match d with | .ref k=>lU (R (k - (n + 2)))|_=>.non) W5.w.tis (xs:=(List.range n).map fun i=>.ref (n + 2 + i)) (σ:=[none]) (by
        rintro x hx σ ⟨a,rfl⟩
        obtain⟨i,hi,rfl⟩:=List.mem_map.mp hx
        have hi:=List.mem_range.mp hi
        refine⟨_,rfl,⟨_,rfl⟩,rfl,fun _ => ?_⟩
        have t:=W5.w.ti i hi
        have so:=Bt n30 (O3.ris i) (O3.lt i)
        have so':((R i).map cK).length < 64∧tN ((R i).map toL)=true∧((R i).map toL).all (fun x => !x.isEmpty)=true:=by rw [List.length_map];exact so
        simp only [List.set_cons_zero,cY,lJ,cI,n9,aa,slot,List.getElem?_cons_zero,aI,t,xa,if_pos so',lU,Nat.add_sub_cancel_left]) ⟨_,rfl⟩
    rw [this,List.filter_eq_self.mpr (by simp),List.map_map,List.map_map]
    congr 1
    apply List.map_congr_left
    intro i _
    simp
  refine⟨n,⟨(List.range n).map fun i=>(R i),bs,ss⟩,h5,?_⟩
  refine⟨?_,n1,n30,⟨by simp,W5.lb,W5.ls,fun r hr p hp => ?_,by omega⟩,W5.os,W5.w.hd0,W5.w.st,W5.w.sts,fun f s => ?_,fun r hr p hp => ?_,W5.fr,fun r hr => ?_,W5.bl⟩
  · have hn':1 + v0 / 2 / 4 % m=n:=hn.symm
    have z1 : -1000000≤(n:Int):=by omega
    have z2:(n:Int)≤1000000:=by omega
    have z3:n≤1000000:=by omega
    have l3:n + 1=h1.length:=by omega
    have l4:2 * n + 2=h2.length:=by omega
    have l5:2 * n + 3=h3.length:=by omega
    have l6:2 * n + 4=h3.length + 1:=by omega
    have hl1:h1.length=n + 1:=by omega
    have hl2:h2.length=2 * n + 2:=by omega
    simp only [List.append_assoc,List.cons_append,List.nil_append] at k5
    have w9:=W5.hb
    have w10:=W5.hs
    have w11:=W5.w.tis
    simp [iC,bM,runB,c0,SZ,d1,em,d2,hn',z1,z2,← hx1,k1,z3,hl1,k2,hl2,k3,L3,k5,w11,comp,w9,w10,W5.lb,W5.ls,Web.enc,letGo,pure?,i3]
  · obtain⟨i,hi,rfl⟩:=List.mem_map.mp hr
    exact O3.lt i p hp
  · have:∀ f s,S2 (fun i=>((List.range n).map fun i=>(R i)).getD i []) f s n=S2 R f s n:=fun f s=>xb f s n fun i hi=>by
      simp [List.getD,hi]
    rw [this,this];exact O3.sym f s
  · obtain⟨i,hi,rfl⟩:=List.mem_map.mp hr
    exact O3.wt i p hp
  · obtain⟨i,hi,rfl⟩:=List.mem_map.mp hr
    exact O3.ris i
end Fm
set_option linter.all false
namespace Fm
theorem php:∀ (N t:Nat) (f:Nat→Nat),(∀ i,i≤t→f i < N)→(∀ i j,i < j→j≤t→f i≠f j)→t + 1≤N
  | 0,t,f,h,_=>by have:=h 0 (Nat.zero_le _);omega
  | N + 1,0,f,_,_=>by omega
  | N + 1,t + 1,f,h,d=>by
    have hv:=h (t + 1) (Nat.le_refl _)
    have:=php N t (fun i=>if f i < f (t + 1) then f i else f i - 1) (fun i hi=>by
      have h1:=h i (by omega)
      have h2:=d i (t + 1) (by omega) (Nat.le_refl _)
      split<;>omega) (fun i j hij hj=>by
      have h1:=d i j hij (by omega)
      have h2:=d i (t + 1) (by omega) (Nat.le_refl _)
      have h3:=d j (t + 1) (by omega) (Nat.le_refl _)
      split<;>split<;>omega)
    omega
def kv:List (Option Int)→List Int→Nat
  | none :: ss,x :: xs=>2 * kv ss xs + x.toNat
  | some _ :: ss,_ :: xs=>kv ss xs
  | _,_=>0
theorem uA:∀ (ss:List (Option Int)) (xs:List Int),(∀ x∈xs,x=0∨x=1)→kv ss xs < 2 ^ free ss
  | [],xs,_=>by simp [kv,free]
  | none :: ss,[],_=>by simp only [kv];exact Nat.two_pow_pos _
  | some _ :: ss,[],_=>by simp only [kv];exact Nat.two_pow_pos _
  | none :: ss,x :: xs,h=>by
    have ih:=uA ss xs fun y hy=>h y (by simp [hy])
    have hx:=h x (by simp)
    have:free (none :: ss)=free ss + 1:=by simp [free]
    rw [this,Nat.pow_succ]
    simp only [kv]
    rcases hx with e|e<;>subst e<;>simp<;>omega
  | some v :: ss,x :: xs,h=>by
    have ih:=uA ss xs fun y hy=>h y (by simp [hy])
    have:free (some v :: ss)=free ss:=by simp [free]
    rw [this];simpa [kv] using ih
theorem pF:∀ (ss:List (Option Int)) (xs ys:List Int),xs.length=ss.length→ys.length=ss.length→(∀ x∈xs,x=0∨x=1)→(∀ x∈ys,x=0∨x=1) →
    (∀ (i:Nat) v,ss[i]? = some (some v)→xs[i]? = some v)→(∀ (i:Nat) v,ss[i]? = some (some v)→ys[i]? = some v)→kv ss xs=kv ss ys→xs=ys
  | [],[],[],_,_,_,_,_,_,_=>rfl
  | [],x :: xs,_,h,_,_,_,_,_,_=>by simp at h
  | [],_,y :: ys,_,h,_,_,_,_,_=>by simp at h
  | s :: ss,[],_,h,_,_,_,_,_,_=>by simp at h
  | s :: ss,_,[],_,h,_,_,_,_,_=>by simp at h
  | none :: ss,x :: xs,y :: ys,h1,h2,b1,b2,s1,s2,c=>by
    simp only [kv] at c
    have hx:=b1 x (by simp)
    have hy:=b2 y (by simp)
    have e:x=y∧kv ss xs=kv ss ys:=by
      rcases hx with e|e<;>rcases hy with e'|e'<;>subst e e'<;>simp at c ⊢<;>omega
    have ih:=pF ss xs ys (by simpa using h1) (by simpa using h2) (fun z hz=>b1 z (by simp [hz])) (fun z hz=>b2 z (by simp [hz])) (fun i v hv=>by simpa using s1 (i + 1) v (by simpa using hv)) (fun i v hv=>by simpa using s2 (i + 1) v (by simpa using hv)) e.2
    rw [e.1,ih]
  | some u :: ss,x :: xs,y :: ys,h1,h2,b1,b2,s1,s2,c=>by
    simp only [kv] at c
    have hx:=s1 0 u rfl
    have hy:=s2 0 u rfl
    have ih:=pF ss xs ys (by simpa using h1) (by simpa using h2) (fun z hz=>b1 z (by simp [hz])) (fun z hz=>b2 z (by simp [hz])) (fun i v hv=>by simpa using s1 (i + 1) v (by simpa using hv)) (fun i v hv=>by simpa using s2 (i + 1) v (by simpa using hv)) c
    simp at hx hy
    rw [hx,hy,ih]
theorem GZ {w:Web}{n:Nat}{s:List Int}(W:w.Ok n)(S:cG w)(F:cn w n s)(sym:∀ f s,S2 (fun i=>w.ties.getD i []) f s n=S2 (fun i=>w.ties.getD i []) s f n)(fr:free w.stays≤8){t:Nat}(hm:∀ k,k < t→av w n s (k + 2)≠av w n s k):t≤255:=by
  have:=php 256 t (fun i=>kv w.stays (av w n s i)) (fun i _=>by
    have h1:=uA w.stays (av w n s i) (aQ W S F i).op
    have h2:2 ^ free w.stays≤2 ^ 8:=Nat.pow_le_pow_right (by omega) fr
    omega) (fun i j hij hj e=>by
    have Fi:=aQ W S F i
    have Fj:=aQ W S F j
    have q:=pF w.stays _ _ (by rw [Fi.len,W.s]) (by rw [Fj.len,W.s]) Fi.op Fj.op Fi.st Fj.st e
    have l1:=Ez W S F sym (k:=i) (hm i (by omega))
    have l2:=HV W S F sym (k:=i + 1) (m:=j) (by omega)
    have l3:eN w n s i=eN w n s j:=by
      unfold eN
      show de w (av w n s i) (cD w n (av w n s i)) n=de w (av w n s j) (cD w n (av w n s j)) n
      rw [q]
    omega)
  omega
theorem Bu {w:Web}{n:Nat}{s:List Int}(W:w.Ok n)(S:cG w)(F:cn w n s)(sym:∀ f s,S2 (fun i=>w.ties.getD i []) f s n=S2 (fun i=>w.ties.getD i []) s f n){t:Nat}(hm:∀ k,k < t→av w n s (k + 2)≠av w n s k):∀ k,k≤t→eN w n s k + k≤eN w n s 0
  | 0,_=>by simp
  | k + 1,h=>by
    have:=Bu W S F sym hm k (by omega)
    have:=Ez W S F sym (k:=k) (hm k (by omega))
    omega
end Fm
set_option linter.all false
namespace Fm
theorem pG:∀ l:List Int,i3 (l.map D.int)=true
  | []=>rfl
  | _ :: l=>pG l
theorem Bv {α : Type}(f : α → D)(d : α){l:List α}{i:Nat}(h:i < l.length):atI (l.map f) (i:Int)=some (f (l.getD i d)):=cT (by rw [List.getElem?_map,List.getElem?_eq_getElem h,List.getD_eq_getElem?_getD,List.getElem?_eq_getElem h];rfl)
end Fm
set_option linter.all false
namespace Fm
def qJ (x:Nat × Int):List (Nat × Int)→List (Nat × Int)
  | []=>[x]
  | y :: r=>if bP (toL x) (toL y)=true then x :: y :: r else y :: qJ x r
def iO:List (Nat × Int)→List (Nat × Int)
  | []=>[]
  | x :: r=>qJ x (iO r)
theorem xc (x:Nat × Int):∀ r,(qJ x r).map toL=t9 (toL x) (r.map toL)
  | []=>rfl
  | y :: r=>by
    simp only [qJ,t9,List.map_cons]
    split
    · rfl
    · simp [xc x r]
theorem sP:∀ r,(iO r).map toL=dC (r.map toL)
  | []=>rfl
  | x :: r=>by simp only [iO,dC,List.map_cons,xc,sP r]
theorem xf {x p:Nat × Int}:∀ {r},p∈qJ x r→p=x∨p∈r
  | [],h=>by simpa [qJ] using h
  | y :: r,h=>by
    simp only [qJ] at h
    split at h
    · simpa using h
    · rcases List.mem_cons.mp h with rfl|h
      · exact .inr (by simp)
      · rcases xf h with h|h
        · exact .inl h
        · exact .inr (by simp [h])
theorem mo {p:Nat × Int}:∀ {r},p∈iO r→p∈r
  | [],h=>h
  | x :: r,h=>by
    rcases xf h with rfl|h
    · simp
    · simp [mo h]
theorem xg (f:Nat × Int→Int)(x:Nat × Int):∀ r,((qJ x r).map f).sum=f x + (r.map f).sum
  | []=>by simp [qJ]
  | y :: r=>by
    simp only [qJ]
    split
    · simp
    · simp [xg f x r];omega
theorem mr (f:Nat × Int→Int):∀ r,((iO r).map f).sum=(r.map f).sum
  | []=>rfl
  | x :: r=>by simp [iO,xg,mr f r]
theorem G0 (r:List (Nat × Int)):r.map cK=(r.map toL).map ua:=by
  rw [List.map_map];rfl
theorem G3 {p q:Nat × Int}(h:toL p=toL q):p.1=q.1:=by
  have:=(List.cons.inj h).1
  omega
theorem xh {r:List (Nat × Int)}(nd:(r.map (·.1)).Nodup)(hl:r.length < 64):kP (r.map cK)=some ((iO r).map cK):=by
  have nd':(r.map toL).Nodup:=by
    rw [List.nodup_iff_pairwise_ne,List.pairwise_map] at nd ⊢
    exact nd.imp fun {a b} h e=>h (G3 e)
  have ne:(r.map toL).all (fun x => !x.isEmpty)=true:=by
    rw [List.all_map,List.all_eq_true];intro p _;rfl
  have hr:nT (r.map cK)=some (r.map toL):=xa r
  have l:(r.map cK).length < 64:=by simpa using hl
  simp only [kP,hr]
  rw [if_pos ⟨l,ne,nd'⟩,← sP,G0]
structure LR (n m:Nat) (R:Nat→List (Nat × Int)):Prop where
  nd:∀ i,((R i).map (·.1)).Nodup
  lt:∀ i p,p∈R i→p.1 < n
  wt:∀ i p,p∈R i→1≤p.2∧p.2≤31
  len:∀ i,(R i).length≤2 * m
  sym:∀ f s,S2 R f s n=S2 R s f n
  loc:m < n → ∀ i p,p∈R i→(p.1 + 1=i∧p.1 < m)∨(p.1=i + 1∧i < m)
theorem pH {l:List Nat}{x:Nat}(h:l.Nodup)(hx:x∉l):(l++[x]).Nodup:=by
  rw [List.nodup_append]
  refine⟨h,by simp,fun a ha b hb e => ?_⟩
  simp at hb
  subst hb e
  exact hx ha
theorem LR.put {n m:Nat}(hn:3≤n){R:Nat→List (Nat × Int)}(o:LR n m R)(hm:m < n){v:Int}(h1:1≤v)(h2:v≤31):LR n (m + 1) (dw (dw R m ((m + 1) % n,v)) ((m + 1) % n) (m,v)):=by
  have loc:=o.loc hm
  obtain⟨j,hj⟩ : ∃ j,j=(m + 1) % n:=⟨_,rfl⟩
  rw [← hj]
  have jn:j < n:=by rw [hj];exact Nat.mod_lt _ (by omega)
  have jm:j≠m:=by
    by_cases e:m + 1 < n
    · rw [hj,Nat.mod_eq_of_lt e];omega
    · have:m + 1=n:=by omega
      rw [hj,this,Nat.mod_self];omega
  have j0:j=m + 1∨(m + 1=n∧j=0):=by
    by_cases e:m + 1 < n
    · exact .inl (by rw [hj,Nat.mod_eq_of_lt e])
    · have:m + 1=n:=by omega
      exact .inr ⟨this,by rw [hj,this,Nat.mod_self]⟩
  have f1:j∉(R m).map (·.1):=fun z=>by
    obtain⟨p,hp,e⟩:=List.mem_map.mp z
    rcases loc m p hp with q|q<;>rcases j0 with w|w<;>omega
  have f2:m∉(R j).map (·.1):=fun z=>by
    obtain⟨p,hp,e⟩:=List.mem_map.mp z
    rcases loc j p hp with q|q<;>rcases j0 with w|w<;>omega
  refine⟨fun i => ?_,fun i p hp => ?_,fun i p hp => ?_,fun i => ?_,fun f s => ?_,fun hm1 i p hp => ?_⟩
  · have nd:=o.nd i
    simp only [dw]
    by_cases e1:i=j
    · subst e1
      rw [if_pos rfl,if_neg jm,List.map_append]
      exact pH nd f2
    · rw [if_neg e1]
      by_cases e2:i=m
      · subst e2
        rw [if_pos rfl,List.map_append]
        exact pH nd f1
      · rw [if_neg e2];exact nd
  · rcases dF hp with hp|rfl
    · rcases dF hp with hp|rfl
      · exact o.lt _ _ hp
      · exact jn
    · exact hm
  · rcases dF hp with hp|rfl
    · rcases dF hp with hp|rfl
      · exact o.wt _ _ hp
      · exact⟨h1,h2⟩
    · exact⟨h1,h2⟩
  · have:=o.len i
    simp only [dw]
    split<;>split<;>simp<;>omega
  · rw [iF,iF,iF,iF,o.sym f s]
    simp only [hm,jn,if_true]
    have e1:v * f j * s m=v * s m * f j:=by rw [Int.mul_assoc,Int.mul_assoc,Int.mul_comm (f j)]
    have e2:v * f m * s j=v * s j * f m:=by rw [Int.mul_assoc,Int.mul_assoc,Int.mul_comm (f m)]
    rw [e1,e2];omega
  · have hj1:j=m + 1:=by rcases j0 with w|w<;>omega
    simp only [dw] at hp
    by_cases e1:i=j
    · subst e1
      rw [if_pos rfl,if_neg jm] at hp
      rcases List.mem_append.mp hp with hp|hp
      · rcases loc _ p hp with q|q<;>omega
      · simp at hp;subst hp;simp;omega
    · rw [if_neg e1] at hp
      by_cases e2:i=m
      · subst e2
        rw [if_pos rfl] at hp
        rcases List.mem_append.mp hp with hp|hp
        · rcases loc _ p hp with q|q<;>omega
        · simp at hp;subst hp;simp;omega
      · rw [if_neg e2] at hp
        rcases loc _ p hp with q|q<;>omega
structure WL (A B n:Nat) (R:Nat→List (Nat × Int)) (h:Hd):Prop where
  hd:∃ y,h[B]? = some (.lst [.int y])
  ti:∀ i,i < n→h[A + i]? = some (.lst ((R i).map cK))
  tis:h[A + n]? = some (.lst ((List.range n).map fun i=>.ref (A + i)))
  z:0 < B ∧ ∃ y,h[0]? = some (.lst [.int y])
theorem WL.setB {A B n:Nat}{R:Nat→List (Nat × Int)}{h:Hd}(w:WL A B n R h)(hB:B < A)(y:Int):WL A B n R (h.set B (.lst [.int y])) where
  hd:=by obtain⟨x,e⟩:=w.hd;exact⟨y,by rw [List.getElem?_set_self (List.getElem?_eq_some_iff.mp e).1]⟩
  ti:=fun i hi=>by rw [List.getElem?_set_ne (by omega)];exact w.ti i hi
  tis:=by rw [List.getElem?_set_ne (by omega)];exact w.tis
  z:=⟨w.z.1,let ⟨x,e⟩:=w.z.2;⟨x,by have:=w.z.1;rw [List.getElem?_set_ne (by omega)];exact e⟩⟩
theorem WL.more {A B n:Nat}{R:Nat→List (Nat × Int)}{h:Hd}(w:WL A B n R h)(c:Hd):WL A B n R (h++c):=by
  have k:∀ {i:Nat} {x:ec},h[i]? = some x→(h++c)[i]? = some x:=fun {i x} e=>by
    rw [List.getElem?_append_left (List.getElem?_eq_some_iff.mp e).1];exact e
  exact⟨let ⟨x,e⟩:=w.hd;⟨x,k e⟩,fun i hi=>k (w.ti i hi),k w.tis,w.z.1,let ⟨x,e⟩:=w.z.2;⟨x,k e⟩⟩
theorem WL.app {A B n:Nat}{R:Nat→List (Nat × Int)}{h:Hd}(w:WL A B n R h)(hB:B < A){i:Nat}(hi:i < n)(p:Nat × Int):WL A B n (dw R i p) (h.set (A + i) (.lst ((R i).map cK++[cK p]))) where
  hd:=by obtain⟨x,e⟩:=w.hd;exact⟨x,by rw [List.getElem?_set_ne (by omega)];exact e⟩
  ti:=fun j hj=>by
    by_cases q:i=j
    · subst q
      have:=(List.getElem?_eq_some_iff.mp (w.ti i hj)).1
      rw [List.getElem?_set_self this]
      simp [dw]
    · rw [List.getElem?_set_ne (by omega),w.ti j hj,dw,if_neg (by omega)]
  tis:=by rw [List.getElem?_set_ne (by omega)];exact w.tis
  z:=⟨w.z.1,let ⟨x,e⟩:=w.z.2;⟨x,by have:=w.z.1;rw [List.getElem?_set_ne (by omega)];exact e⟩⟩
theorem CC {A B n M:Nat}(hB:B < A)(hn:3≤n)(hn30:n≤30)(hM:M≤n){r g:Int}(r0:r=0∨r=1){R:Nat→List (Nat × Int)}{h:Hd}(w:WL A B n R h)(o:LR n 0 R) :
    ∃ a b R' h',gl none ((List.range M).map fun k:Nat=>D.int k) (gN 5) jP ((List.range M).map fun k:Nat=>D.int k)
      [some (.ref B),some (.int n),some (.int r),some (.int g),some (.ref (A + n)),none,none,none] h
      = .nx [some (.ref B),some (.int n),some (.int r),some (.int g),some (.ref (A + n)),a,b,none] h'∧WL A B n R' h'∧LR n M R'∧h'.length=h.length:=by
  obtain⟨σ',h',h1,R',a',b',h2,h3,h4,h5⟩:=cZ (P:=fun i σ h'=>∃ R a b,σ = [some (.ref B),some (.int n),some (.int r),some (.int g),some (.ref (A + n)),a,b,none]∧WL A B n R h'∧LR n i R∧h'.length=h.length)
    (g:=none) (k:=0) (all:=(List.range M).map fun k:Nat=>D.int k) (fun _ _ _ _=>trivial) (xs:=(List.range M).map fun k:Nat=>D.int k) (tg:=gN 5) (b:=jP)
    (σ:=[some (.ref B),some (.int n),some (.int r),some (.int g),some (.ref (A + n)),none,none,none]) (h:=h) (by
      rintro i x σ h0 hx ⟨R,a,b,rfl,w,o,hl⟩
      obtain⟨hi,rfl⟩:=cO hx
      rw [Nat.zero_add] at o ⊢
      have hin:i < n:=by omega
      obtain⟨v,hv⟩ : ∃ v:Int,v=1 + r * i:=⟨_,rfl⟩
      have v1:1≤v∧v≤31:=by rcases r0 with e|e<;>subst e<;>simp at hv<;>omega
      have sm:sml r=true:=GM r0
      have o3:=o.put hn hin v1.1 v1.2
      have mi:((i:Int) + 1) % (n:Int)=(((i + 1) % n:Nat):Int):=by norm_cast
      have jn:(i + 1) % n < n:=Nat.mod_lt _ (by omega)
      generalize (i + 1) % n=j at mi jn o3
      have r1:=eV (a:=A) hin
      have r2:=eV (a:=A) jn
      have t1:=w.ti i hin
      have w2:=w.app hB hin (j,v)
      have t2:=w2.ti _ jn
      have w3:=w2.app hB jn (i,v)
      have l1:((R i).map cK).length < 1000000:=by have:=o.len i;simp;omega
      have l2:(((dw R i (j,v)) j).map cK).length < 1000000:=by
        have:=o.len j
        simp only [dw];split<;>simp<;>omega
      have n0:0 < n:=by omega
      refine⟨_,rfl,[some (.ref B),some (.int n),some (.int r),some (.int g),some (.ref (A + n)),some (.int i),some (.int v),none],_,?_,_,_,_,rfl,w3,o3,by simp [hl]⟩
      have s2:=w2.tis
      simp only [cK] at t1 t2 l1 l2 s2
      have s1:aT (gN 6) (ak bT (fC (.int 1)) (ak fj (aa 2) (aa 5))) [some (.ref B),some (.int n),some (.int r),some (.int g),some (.ref (A + n)),some (.int i),b,none] h0=.nx [some (.ref B),some (.int n),some (.int r),some (.int g),some (.ref (A + n)),some (.int i),some (.int v),none] h0:=by
        rw [hv];simp [sm]
      show aE _ _ [some (.ref B),some (.int n),some (.int r),some (.int g),some (.ref (A + n)),some (.int i),b,none] h0=_
      rw [dj s1]
      simp [-List.length_map,SZ,w.tis,r1,t1,l1,n0,mi,s2,r2,t2,l2,cK]) ⟨R,_,_,rfl,w,o,rfl⟩
  refine⟨a',b',R',h',?_,h3,?_,h5⟩
  · rw [h1,h2]
  · simpa using h4
end Fm
set_option linter.all false
namespace Fm
abbrev NL (l:List Nat):List D:=l.map fun k:Nat=>D.int k
structure Ch (w:Web) (n:Nat) (l:List Nat):Prop where
  up:l.Pairwise (· < ·)
  lt:∀ p∈l,p < n
  no:∀ p∈l,w.stays.getD p none≠some 0
def cP (w:Web) (n:Nat) (l:List Nat):List Int:=(List.range n).map fun i=>if i∈l∨w.stays.getD i none=some 1 then 1 else 0
theorem uB (u:Option Int)(h:Hd):oNe (bz u) (.int 0) h=.ok (.bl (decide (u≠some 0))) h:=by
  cases u with
  | none=>rfl
  | some v =>
    show oNe (.int v) (.int 0) h=_
    rw [y9]
    by_cases e:v=0
    · rw [decide_eq_true e,decide_eq_false (fun z=>z (by rw [e]))];rfl
    · rw [decide_eq_false e,decide_eq_true (show (some v≠some (0:Int)) from fun z=>e (Option.some.inj z))];rfl
theorem EO (u:Option Int)(h:Hd):oEq (bz u) (.int 1) h=.ok (.bl (decide (u=some 1))) h:=by
  cases u with
  | none=>rfl
  | some v =>
    show oEq (.int v) (.int 1) h=_
    rw [sH]
    by_cases e:v=1
    · rw [decide_eq_true e,decide_eq_true (by rw [e])]
    · rw [decide_eq_false e,decide_eq_false (fun z=>e (Option.some.inj z))]
theorem Kz {h:Hd}{k:Nat}{l:List Nat}(hk:h[k]? = some (.lst (NL l)))(i:Nat):oIn (.int (i:Nat)) (.ref k) h=.ok (.bl (decide (i∈l))) h:=by
  have f:(NL l).all bY=true:=by
    rw [List.all_eq_true];intro x hx;obtain⟨j,_,rfl⟩:=List.mem_map.mp hx;rfl
  have a:((NL l).any fun z=>eqF z (.int (i:Nat)))=decide (i∈l):=by
    by_cases e:i∈l
    · rw [decide_eq_true e,List.any_eq_true]
      exact⟨.int (i:Nat),List.mem_map.mpr ⟨i,e,rfl⟩,by simp⟩
    · rw [decide_eq_false e,List.any_eq_false]
      intro x hx z
      obtain⟨j,hj,rfl⟩:=List.mem_map.mp hx
      have z:((j:Int) == (i:Int))=true:=z
      have:j=i:=by have:=eq_of_beq z;omega
      exact e (this ▸ hj)
  simp only [oIn,inL,fW,hk,bY,f,Bool.and_self,if_true,a]
section
variable {w:Web} {n:Nat} {l:List Nat}
theorem Bw (W:w.Ok n){p:Nat}(hp:p < n):atI (w.stays.map bz) (p:Int)=some (bz (w.stays.getD p none)):=by
  have h:p < w.stays.length:=W.s.symm ▸ hp
  rw [List.getD_eq_getElem?_getD,List.getElem?_eq_getElem h]
  exact cT (by rw [List.getElem?_map,List.getElem?_eq_getElem h];rfl)
theorem CF (W:w.Ok n){p:Nat}(hp:p < n)(h:Hd):eZ [w.enc,.int (p:Nat)] h=.ok (.bl true) h:=by
  have m:cw [w.enc] h=.ok (.int n) h:=by rw [ji,W.t]
  have b:cC [.int (p:Nat),.int 0,.int ((n:Int) - 1)] h=.ok (.bl true) h:=by
    have:=jh (p:Int) 0 ((n:Int) - 1) h
    rw [this,decide_eq_true (show (0:Int)≤p by omega),decide_eq_true (show (p:Int)≤(n:Int) - 1 by omega)];rfl
  exact (cq rfl rfl (bA (aA (bq rfl (bU rfl (ax (aA (bq rfl rfl) m) rfl rfl))) b))).trans bg
theorem CG (W:w.Ok n){p:Nat}(hp:p < n)(no:w.stays.getD p none≠some 0)(h:Hd):bL [w.enc,.int (p:Nat)] h=.ok (.bl true) h:=by
  have s:cM [w.enc,.int (p:Nat)] h=.ok (bz (w.stays.getD p none)) h:=(cq rfl rfl (bA (a0 (a0 rfl rfl rfl rfl) rfl rfl (Bw W hp)))).trans bg
  exact (cq rfl rfl (bA (Bk (kr (bh (aA (bU rfl rfl) (CF W hp h))) (bh (ax (aA (bU rfl rfl) s) rfl (by rw [uB,decide_eq_true no]))))))).trans bg
theorem EQ {α : Type}(l:List α):iZ (l.map fun _=>D.bl true)=some (l.map fun _=>true):=by
  induction l with
  | nil=>rfl
  | cons x l ih=>simp [iZ,ih]
theorem KA {α : Type}(l:List α):(l.map fun _=>true).all id=true:=by simp
theorem G4 {a:EF}{σ:Sd}{h:Hd}{m:Nat}(hm:m≤1000)(p:a σ h=.ok (.int ((m:Int) - 1)) h):bm a σ h=.ok ((List.range (m - 1)).map (fun k:Nat=>D.int k),none) h:=by
  show Res.bind _ _=_
  rw [p]
  show (if -1000000≤(m:Int) - 1∧(m:Int) - 1≤1000000 then Res.ok ((List.range ((m:Int) - 1).toNat).map (fun k:Nat=>D.int k),(none:Option Nat)) h else Res.bad)=_
  rw [if_pos ⟨by omega,by omega⟩,show ((m:Int) - 1).toNat=m - 1 by omega]
theorem pI:∀ {m:Nat} {l:List Nat},l.Pairwise (· < ·)→(∀ x∈l,x < m)→l.length≤m
  | m,[],_,_=>Nat.zero_le _
  | 0,x :: l,_,h=>absurd (h x (by simp)) (by omega)
  | m + 1,x :: l,p,h=>by
    have p':=List.pairwise_cons.mp p
    have:=pI (m:=m) (l:=l.map (· - 1)) (by
      rw [List.pairwise_map]
      refine p'.2.imp_of_mem fun {a b} ha hb q => ?_
      have:=p'.1 a ha;have:=p'.1 b hb
      omega) (fun y hy=>by
      obtain⟨z,hz,rfl⟩:=List.mem_map.mp hy
      have:=h z (by simp [hz]);have:=p'.1 z hz
      omega)
    simp at this ⊢;omega
theorem sQ (C:Ch w n l):l.length≤n:=pI C.up C.lt
theorem uC (W:w.Ok n)(n30:n≤30)(C:Ch w n l){h:Hd}{k:Nat}(hk:h[k]? = some (.lst (NL l))):cy [w.enc,.ref k] h=.ok (.bl true) h:=by
  have c1:bQ (some k) (NL l) (gN 0) [] (ar bL (af (aa 1) (af (aa 0) aq))) (NL l) [none,some w.enc] h=.ok ((NL l).map fun _=>D.bl true) h:=by
    have:=bJ (g:=some k) (all:=NL l) (tg:=gN 0) (cs:=[]) (e:=ar bL (af (aa 1) (af (aa 0) aq))) (h:=h) (I:=fun σ=>∃ a,σ = [a,some w.enc]) (fun _=>true) (fun _=>.bl true) hk (xs:=NL l) (σ:=[none,some w.enc]) (by
      rintro x hx σ ⟨a,rfl⟩
      obtain⟨i,hi,rfl⟩:=List.mem_map.mp hx
      exact⟨_,rfl,⟨_,rfl⟩,rfl,fun _=>aA (bU rfl rfl) (CG W (C.lt i hi) (C.no i hi) h)⟩) ⟨_,rfl⟩
    rw [this,List.filter_eq_self.mpr (fun _ _=>rfl)]
  have c2:bQ none ((List.range (l.length - 1)).map fun k:Nat=>D.int k) (gN 0) [] (ak oLt (fAt (aa 1) (aa 0)) (fAt (aa 1) (ak bT (aa 0) (fC (.int 1))))) ((List.range (l.length - 1)).map fun k:Nat=>D.int k) [none,some (.ref k)] h=.ok (((List.range (l.length - 1)).map fun k:Nat=>D.int k).map fun _=>D.bl true) h:=by
    have:=bJ (g:=none) (all:=(List.range (l.length - 1)).map fun k:Nat=>D.int k) (tg:=gN 0) (cs:=[]) (e:=ak oLt (fAt (aa 1) (aa 0)) (fAt (aa 1) (ak bT (aa 0) (fC (.int 1))))) (h:=h) (I:=fun σ=>∃ a,σ = [a,some (.ref k)]) (fun _=>true) (fun _=>.bl true) trivial (xs:=(List.range (l.length - 1)).map fun k:Nat=>D.int k) (σ:=[none,some (.ref k)]) (by
      rintro x hx σ ⟨a,rfl⟩
      obtain⟨i,hi,rfl⟩:=List.mem_map.mp hx
      have hi:=List.mem_range.mp hi
      have h1:i < l.length:=by omega
      have h2:i + 1 < l.length:=by omega
      have a1:atI (NL l) (i:Int)=some (.int (l[i] : Nat)):=cT (by rw [List.getElem?_map,List.getElem?_eq_getElem h1];rfl)
      have a2:atI (NL l) ((i:Int) + 1)=some (.int (l[i + 1] : Nat)):=by
        have:atI (NL l) ((i + 1:Nat):Int)=some (.int (l[i + 1] : Nat)):=cT (by rw [List.getElem?_map,List.getElem?_eq_getElem h2];rfl)
        exact this
      have lt:=List.pairwise_iff_getElem.mp C.up i (i + 1) h1 h2 (Nat.lt_succ_self _)
      exact⟨_,rfl,⟨_,rfl⟩,rfl,fun _=>ax (a0 rfl rfl (ba hk) a1) (a0 rfl (ax rfl rfl rfl) (ba hk) a2) (Jm (by omega))⟩) ⟨_,rfl⟩
    rw [this,List.filter_eq_self.mpr (fun _ _=>rfl)]
  have ll:=sQ C
  have s1:sIf (ib (tE (kJ .list (aa 1)))) (bc (fC (.bl false))) b9 [some w.enc,some (.ref k)] h=.nx [some w.enc,some (.ref k)] h:=(d9 (jg (b:=true) (bh (Jo rfl hk)))).trans rfl
  have s2:sIf (ib (tE (BU (bF 1 [0] (eW (aa 1)) (gN 0) [] (ar bL (af (aa 1) (af (aa 0) aq))))))) (bc (fC (.bl false))) b9 [some w.enc,some (.ref k)] h=.nx [some w.enc,some (.ref k)] h:=(d9 (jg (b:=true) (bh ((Ew (eh (Bl rfl hk) c1) (EQ _)).trans (by rw [KA]))))).trans rfl
  have lw:ak ig (cX (lOf (aa 1))) (fC (.int 1)) [some w.enc,some (.ref k)] h=.ok (.int ((l.length:Int) - 1)) h:=ax (x:=.int (l.length:Nat)) ((dc (cL rfl (ba hk))).trans (by rw [List.length_map])) rfl rfl
  exact (cq rfl rfl ((aW s1).trans ((aW s2).trans (bA ((Ew (eh (G4 (by omega) lw) c2) (EQ _)).trans (by rw [KA])))))).trans bg
theorem hW (W:w.Ok n)(S:cG w)(C:Ch w n l):cn w n (cP w n l):=by
  refine⟨by simp [cP],fun x hx => ?_,fun i x e => ?_⟩
  · obtain⟨i,_,rfl⟩:=List.mem_map.mp hx
    split
    · exact .inr rfl
    · exact .inl rfl
  · have hi:i < n:=by have:=(List.getElem?_eq_some_iff.mp e).1;rwa [W.s] at this
    have g:w.stays.getD i none=some x:=by rw [List.getD_eq_getElem?_getD,e];rfl
    have ox:=S (some x) (List.mem_of_getElem? e)
    show ((List.range n).map _)[i]? = _
    rw [List.getElem?_map,List.getElem?_range hi]
    show some (if i∈l∨w.stays.getD i none=some 1 then (1:Int) else 0)=_
    rcases ox with z|z|z
    · cases z
    · have z:=Option.some.inj z
      subst z
      rw [if_neg]
      rintro (q|q)
      · exact C.no i q g
      · rw [g] at q;cases q
    · have z:=Option.some.inj z
      subst z
      rw [if_pos (.inr g)]
theorem ER {l:List D}{x:D}(hx:x∈ga l):∃ (i:Nat) (d:D),l[i]? = some d∧x=.tup [.int (i:Nat),d]:=by
  unfold ga at hx
  obtain⟨p,hp,rfl⟩:=List.mem_map.mp hx
  obtain⟨k,hk⟩:=List.getElem?_of_mem hp
  rw [List.getElem?_zip_eq_some] at hk
  obtain⟨h1,h2⟩:=hk
  have:p.1=k:=by
    obtain⟨h3,h4⟩:=List.getElem?_eq_some_iff.mp h1
    simpa using h4.symm
  exact⟨k,p.2,h2,by rw [this]⟩
theorem ES (ss:List (Option Int))(f:Nat→Option Int→D):(ga (ss.map bz)).map (fun d=>match d with | .tup [.int i,_]=>f i.toNat (ss.getD i.toNat none)|_=>.non)=(List.range ss.length).map fun i=>f i (ss.getD i none):=by
  unfold ga
  rw [List.map_map]
  apply List.ext_getElem?
  intro i
  by_cases hi:i < ss.length
  · rw [List.getElem?_map,List.getElem?_map,List.getElem?_range hi]
    have:((List.range (ss.map bz).length).zip (ss.map bz))[i]? = some (i,bz ss[i]):=by
      rw [List.getElem?_zip_eq_some]
      exact⟨List.getElem?_range (by simpa using hi),by rw [List.getElem?_map,List.getElem?_eq_getElem hi];rfl⟩
    rw [this];rfl
  · rw [List.getElem?_eq_none (by simp;omega),List.getElem?_eq_none (by simp;omega)]
theorem xi (W:w.Ok n)(n30:n≤30)(C:Ch w n l){h:Hd}{k:Nat}(hk:h[k]? = some (.lst (NL l))):fH [w.enc,.ref k] h=.ok (au (cP w n l)) h:=by
  obtain⟨A,hA⟩ : ∃ A,A=h.length:=⟨_,rfl⟩
  have so:dM [w.enc] h=.ok (.ref A) (h++[.lst (w.stays.map bz)]):=(cq rfl rfl (bA (eT hA (cL (a0 rfl rfl rfl rfl) rfl) (by rw [List.length_map,W.s];exact Nat.le_trans n30 (by decide))))).trans ph
  obtain⟨h1,hh1⟩ : ∃ h1:Hd,h1=h++[.lst (w.stays.map bz)]:=⟨_,rfl⟩
  rw [← hh1] at so
  have g1:h1[A]? = some (.lst (w.stays.map bz)):=by rw [hh1];exact eS hA _
  have hk1:h1[k]? = some (.lst (NL l)):=by rw [hh1];exact dL _ hk
  have c:=oY (G:=fun h'=>h'[A]? = some (.lst (w.stays.map bz))) (tg:=gT [0,1]) (cs:=[]) (e:=fIf (tOr (tE (ak oIn (aa 0) (aa 2))) (tE (ak oEq (aa 1) (fC (.int 1))))) (fC (.int 1)) (fC (.int 0))) (h:=h1) (I:=fun σ=>∃ a b,σ = [a,b,some (.ref k)]) (fun _=>true)
    (fun d=>match d with | .tup [.int i,_]=>(fun i u=>D.int (if i∈l∨u=some 1 then 1 else 0)) i.toNat (w.stays.getD i.toNat none)|_=>.non) g1 (xs:=ga (w.stays.map bz)) (σ:=[none,none,some (.ref k)]) (by
      rintro x hx σ ⟨a,b,rfl⟩
      obtain⟨i,d,hd,rfl⟩:=ER hx
      have hil:i < w.stays.length:=by have:=(List.getElem?_eq_some_iff.mp hd).1;rwa [List.length_map] at this
      have hd':d=bz (w.stays.getD i none):=by
        rw [List.getElem?_map,List.getElem?_eq_getElem hil] at hd
        rw [List.getD_eq_getElem?_getD,List.getElem?_eq_getElem hil];exact (Option.some.inj hd).symm
      subst hd'
      refine⟨_,rfl,⟨_,_,rfl⟩,rfl,fun _ => ?_⟩
      show fIf (tOr (tE (ak oIn (aa 0) (aa 2))) (tE (ak oEq (aa 1) (fC (.int 1))))) (fC (.int 1)) (fC (.int 0)) [some (.int i),some (bz (w.stays.getD i none)),some (.ref k)] h1=.ok (.int (if ((i:Int)).toNat∈l∨w.stays.getD ((i:Int)).toNat none=some 1 then 1 else 0)) h1
      rw [Int.toNat_natCast]
      have t1:tE (ak oIn (aa 0) (aa 2)) [some (.int i),some (bz (w.stays.getD i none)),some (.ref k)] h1=.ok (decide (i∈l)) h1:=bh (ax rfl rfl (Kz hk1 i))
      have t2:tE (ak oEq (aa 1) (fC (.int 1))) [some (.int i),some (bz (w.stays.getD i none)),some (.ref k)] h1=.ok (decide (w.stays.getD i none=some 1)) h1:=bh (ax rfl rfl (EO _ _))
      by_cases c1:i∈l
      · rw [decide_eq_true c1] at t1
        rw [if_pos (.inl c1)]
        exact (uj (Jl t1)).trans rfl
      · rw [decide_eq_false c1] at t1
        by_cases c2:w.stays.getD i none=some 1
        · rw [decide_eq_true c2] at t2
          rw [if_pos (.inr c2)]
          exact (uj (nj t1 t2)).trans rfl
        · rw [decide_eq_false c2] at t2
          rw [if_neg (fun z=>z.elim c1 c2)]
          exact (y8 (nj t1 t2)).trans rfl) ⟨_,_,rfl⟩
  rw [List.filter_eq_self.mpr (fun _ _=>rfl),ES w.stays (fun i u=>D.int (if i∈l∨u=some 1 then 1 else 0)),W.s] at c
  have e1:oX 2 [1] (ar dM (af (aa 0) aq)) (gT [0,1]) [] (fIf (tOr (tE (ak oIn (aa 0) (aa 2))) (tE (ak oEq (aa 1) (fC (.int 1))))) (fC (.int 1)) (fC (.int 0))) [some w.enc,some (.ref k)] h=.ok ((cP w n l).map .int) h1:=by
    have f:=aA (F:=dM) (r:=af (aa 0) aq) (σ:=[some w.enc,some (.ref k)]) (bq rfl rfl) so
    unfold oX
    rw [f]
    simp only [g1]
    refine c.trans ?_
    unfold cP
    rw [List.map_map];rfl
  have s1:sIf (ib (tE (ar cy (af (aa 0) (af (aa 1) aq))))) Gh b9 [some w.enc,some (.ref k)] h=.nx [some w.enc,some (.ref k)] h:=(d9 (jg (b:=true) (bh (aA (bU rfl rfl) (uC W n30 C hk))))).trans rfl
  refine (cq rfl rfl ((aW s1).trans (bA (oq e1)))).trans ?_
  rw [hh1]
  exact pi (by simp only [pure?];exact pG _)
end
end Fm
set_option linter.all false
namespace Fm
theorem ET {l:List D}{k:Nat}(hk:1≤k):cut l (some (-(k:Int))) none=l.drop (l.length - k):=by
  have e:sIx l.length 0 (some (-(k:Int)))=l.length - k:=by
    show (if -(k:Int) < 0 then (-(k:Int) + (l.length:Nat)).toNat else _)=_
    rw [if_pos (by omega)];omega
  unfold cut
  rw [e]
  exact List.take_of_length_le (by rw [List.length_drop];exact Nat.le_refl _)
theorem CH {l:List D}{k:Nat}(hk:1≤k):cut l none (some (-(k:Int)))=l.take (l.length - k):=by
  have e:sIx l.length l.length (some (-(k:Int)))=l.length - k:=by
    show (if -(k:Int) < 0 then (-(k:Int) + (l.length:Nat)).toNat else _)=_
    rw [if_pos (by omega)];omega
  unfold cut
  rw [e];rfl
theorem Jy {l:List D}{k:Nat}(hk:k≤l.length):cut l none (some (k:Int))=l.take k:=by
  have e:sIx l.length l.length (some (k:Int))=k:=by
    show (if (k:Int) < 0 then ((k:Int) + (l.length:Nat)).toNat else min ((k:Int)).toNat l.length)=_
    rw [if_neg (by omega),Int.toNat_natCast,Nat.min_eq_left hk]
  unfold cut
  rw [e];rfl
theorem pJ {a:EF}{lo hi:OF}{σ:Sd}{h h1 h2 h3:Hd}{n:Nat}{i j:Option Int}{l:List D}(p:a σ h=.ok (.ref n) h1)(q:lo σ h1=.ok i h2)(r:hi σ h2=.ok j h3)(s:h3[n]? = some (.lst l)):gx a lo hi σ h=.ok (.ref h3.length) (h3++[.lst (cut l i j)]):=by
  simp only [gx,p,aI,q,r,cI,s]
section
variable {w:Web} {n:Nat} {s:List Int}
theorem pK (t j:Nat):(aR w n s (t + j)).drop t=(List.range j).map fun i=>av w n s (t + i):=by
  unfold aR
  apply List.ext_getElem?
  intro i
  rw [List.getElem?_drop,List.getElem?_map,List.getElem?_map]
  by_cases hi:i < j
  · rw [List.getElem?_range (by omega),List.getElem?_range hi];rfl
  · rw [List.getElem?_eq_none (by simp;omega),List.getElem?_eq_none (by simp;omega)];rfl
theorem zE (t j:Nat):(aR w n s (t + j)).take t=aR w n s t:=by
  unfold aR
  rw [← List.map_take,List.take_range,Nat.min_eq_left (Nat.le_add_right t j)]
def NOT:D:=.str [110,111,116]
def TRN:D:=.str [116,117,114,110]
noncomputable def eu (w:Web) (n:Nat) (s:List Int) (t:Nat):D:=if av w n s (t + 1)=av w n s t then (if (0:Int)∈av w n s (t + 1) then NOT else TRN) else NOT
noncomputable def gk (w:Web) (n:Nat) (s:List Int) (t:Nat):List (List Int):=if av w n s (t + 1)=av w n s t then (if (0:Int)∈av w n s (t + 1) then [av w n s (t + 1)] else aR w n s (t + 1)) else [av w n s t,av w n s (t + 1)]
theorem Bx (l:List Int)(x:Int)(h:Hd):inL h (.int x) (au l)=some (decide (x∈l)):=by
  have f:(l.map D.int).all bY=true:=by
    rw [List.all_eq_true];intro x hx;obtain⟨j,_,rfl⟩:=List.mem_map.mp hx;rfl
  have a:((l.map D.int).any fun z=>eqF z (.int x))=decide (x∈l):=by
    by_cases e:x∈l
    · rw [decide_eq_true e,List.any_eq_true]
      exact⟨.int x,List.mem_map.mpr ⟨x,e,rfl⟩,by simp⟩
    · rw [decide_eq_false e,List.any_eq_false]
      intro y hy z
      obtain⟨j,hj,rfl⟩:=List.mem_map.mp hy
      have z:(j == x)=true:=z
      exact e (eq_of_beq z ▸ hj)
  simp only [inL,au,fW,bY,f,Bool.and_self,if_true,a]
theorem zF (l:List Int)(x:Int)(h:Hd):oIn (.int x) (au l) h=.ok (.bl (decide (x∈l))) h:=by
  unfold oIn;rw [Bx]
theorem CJ (l:List Int)(x:Int)(h:Hd):lI (.int x) (au l) h=.ok (.bl (!decide (x∈l))) h:=by
  unfold lI;rw [Bx]
theorem iG {l:List Nat}(W:w.Ok n)(n30:n≤30)(S:cG w)(C:Ch w n l){h:Hd}{k A:Nat}(hk:h[k]? = some (.lst (NL l)))(hA:A=h.length){t:Nat}(ht:av w n (cP w n l) (t + 2)=av w n (cP w n l) t)(hm:∀ k,k < t→av w n (cP w n l) (k + 2)≠av w n (cP w n l) k)(hz:t≤900000) :
    dR [w.enc,.ref k] h=.ok (.tup [eu w n (cP w n l) t,.ref (A + 1)]) (h++[.lst ((aR w n (cP w n l) (t + 2)).map au),.lst ((gk w n (cP w n l) t).map au)]):=by
  have F:=hW W S C
  obtain⟨s,hs⟩ : ∃ s,s=cP w n l:=⟨_,rfl⟩
  have be:=xi W n30 C hk
  rw [← hs] at ht hm F be ⊢
  have en:=EA W S F ht hm hz h
  rw [← hA] at en
  obtain⟨wd,hw⟩ : ∃ wd,wd=if av w n s (t + 1)=av w n s t then [114,101,115,116] else [112,97,105,114]:=⟨_,rfl⟩
  rw [← hw] at en
  obtain⟨h1,hh1⟩ : ∃ h1,h1=h++[ec.lst ((aR w n s (t + 2)).map au)]:=⟨_,rfl⟩
  rw [← hh1] at en
  have g1:h1[A]? = some (.lst ((aR w n s (t + 2)).map au)):=by rw [hh1];exact eS hA _
  have l1:h1.length=A + 1:=by rw [hh1,List.length_append,hA];rfl
  have ln:((aR w n s (t + 2)).map au).length=t + 2:=by rw [List.length_map,dQ]
  have X:=[some w.enc,some (.ref k),some (D.tup [.int t,.str wd,.ref A]),some (.str wd),some (.ref A)]
  have s1:aT (gN 2) (ar iA (af (aa 0) (af (ar fH (af (aa 0) (af (aa 1) aq))) aq))) [some w.enc,some (.ref k),none,none,none] h=.nx [some w.enc,some (.ref k),some (D.tup [.int t,.str wd,.ref A]),none,none] h1:=bn (aA (bU rfl (aA (bU rfl rfl) be)) en)
  have s2:aT (gN 3) (fAt (aa 2) (fC (.int 1))) [some w.enc,some (.ref k),some (D.tup [.int t,.str wd,.ref A]),none,none] h1=.nx [some w.enc,some (.ref k),some (D.tup [.int t,.str wd,.ref A]),some (.str wd),none] h1:=bn (a0 rfl rfl rfl rfl)
  have s3:aT (gN 4) (fAt (aa 2) (fC (.int 2))) [some w.enc,some (.ref k),some (D.tup [.int t,.str wd,.ref A]),some (.str wd),none] h1=.nx [some w.enc,some (.ref k),some (D.tup [.int t,.str wd,.ref A]),some (.str wd),some (.ref A)] h1:=bn (a0 rfl rfl rfl rfl)
  have b1:atI ((aR w n s (t + 2)).map au) (-1)=some (au (av w n s (t + 1))):=gZ (t + 1) 1 (by decide)
  have fin:∀ (d:D) (L:List D),(h1++[ec.lst L])=h++[.lst ((aR w n s (t + 2)).map au),.lst L]:=fun d L=>by rw [hh1,List.append_assoc];rfl
  have go:∀ {d:D} {g:Hd},letGo h (.ok (.tup [d,.ref (A + 1)]) g)=.ok (.tup [d,.ref (A + 1)]) g:=fun {d g}=>sF (by simp [pure?,i3])
  have sl:∀ {j:Nat} (hj:1≤j) (σ:Sd) (e:aa 4 σ h1=.ok (.ref A) h1),gx (aa 4) (pAt (fC (.int (-(j:Int))))) pNo σ h1=.ok (.ref (A + 1)) (h1++[.lst (((aR w n s (t + 2)).map au).drop (t + 2 - j))]):=fun {j} hj σ e=>by
    have:=pJ (a:=aa 4) (lo:=pAt (fC (.int (-(j:Int))))) (hi:=pNo) (σ := σ) e rfl rfl g1
    rw [ET hj,ln,l1] at this;exact this
  by_cases q:av w n s (t + 1)=av w n s t
  · rw [if_pos q] at hw
    have s4:sIf (tE (ak oEq (aa 3) (fC (.str [112,97,105,114])))) (bc (gw (af (fC (.str [110,111,116])) (af (gx (aa 4) (pAt (fC (.int (-2)))) pNo) aq)))) b9 [some w.enc,some (.ref k),some (D.tup [.int t,.str wd,.ref A]),some (.str wd),some (.ref A)] h1=.nx [some w.enc,some (.ref k),some (D.tup [.int t,.str wd,.ref A]),some (.str wd),some (.ref A)] h1:=by
      rw [hw];exact (d9 (bh (ax rfl rfl rfl))).trans rfl
    have t5:tE (ak oIn (fC (.int 0)) (fAt (aa 4) (fC (.int (-1))))) [some w.enc,some (.ref k),some (D.tup [.int t,.str wd,.ref A]),some (.str wd),some (.ref A)] h1=.ok (decide ((0:Int)∈av w n s (t + 1))) h1:=bh (ax rfl (a0 rfl rfl (ba g1) b1) (zF _ _ _))
    by_cases z:(0:Int)∈av w n s (t + 1)
    · rw [decide_eq_true z] at t5
      have r:=sl (j:=1) (Nat.le_refl _) [some w.enc,some (.ref k),some (D.tup [.int t,.str wd,.ref A]),some (.str wd),some (.ref A)] rfl
      rw [show t + 2 - 1=t + 1 from rfl,← List.map_drop,show t + 2=(t + 1) + 1 from rfl,pK] at r
      unfold eu gk
      rw [if_pos q,if_pos z,if_pos q,if_pos z]
      refine (cq rfl rfl ((aW s1).trans ((aW s2).trans ((aW s3).trans ((aW s4).trans (nk ((kq t5).trans (bA (lV (bU rfl r)))))))))).trans (go.trans ?_)
      rw [fin .non];rfl
    · rw [decide_eq_false z] at t5
      have r:=pJ (a:=aa 4) (lo:=pNo) (hi:=pAt (fC (.int (-((1:Nat):Int))))) (σ:=[some w.enc,some (.ref k),some (D.tup [.int t,.str wd,.ref A]),some (.str wd),some (.ref A)]) (h:=h1) rfl rfl rfl g1
      rw [CH (Nat.le_refl 1),ln,l1,← List.map_take,show t + 2 - 1=t + 1 from rfl,show t + 2=(t + 1) + 1 from rfl,zE] at r
      unfold eu gk
      rw [if_pos q,if_neg z,if_pos q,if_neg z]
      refine (cq rfl rfl ((aW s1).trans ((aW s2).trans ((aW s3).trans ((aW s4).trans ((aW ((d9 t5).trans rfl)).trans (bA (lV (bU rfl r))))))))).trans (go.trans ?_)
      rw [fin .non];rfl
  · rw [if_neg q] at hw
    have t4:tE (ak oEq (aa 3) (fC (.str [112,97,105,114]))) [some w.enc,some (.ref k),some (D.tup [.int t,.str wd,.ref A]),some (.str wd),some (.ref A)] h1=.ok true h1:=by
      rw [hw];exact bh (ax rfl rfl rfl)
    have r:=sl (j:=2) (by decide) [some w.enc,some (.ref k),some (D.tup [.int t,.str wd,.ref A]),some (.str wd),some (.ref A)] rfl
    rw [show t + 2 - 2=t from rfl,← List.map_drop,pK] at r
    unfold eu gk
    rw [if_neg q,if_neg q]
    refine (cq rfl rfl ((aW s1).trans ((aW s2).trans ((aW s3).trans (nk ((kq t4).trans (bA (lV (bU rfl r))))))))).trans (go.trans ?_)
    rw [fin .non];rfl
theorem kW (a b:Nat)(e:av w n s a=av w n s b):∀ k,av w n s (a + k)=av w n s (b + k)
  | 0=>e
  | k + 1=>by
    show cD w n (av w n s (a + k))=cD w n (av w n s (b + k))
    rw [kW a b e k]
end
end Fm
set_option linter.all false
namespace Fm
structure SH (B n:Nat) (h:Hd):Prop where
  st:∀ i,i < n → ∃ y,h[B + i]? = some (.lst [.int y])
  sts:h[B + n]? = some (.lst ((List.range n).map fun i=>.ref (B + i)))
theorem SH.set {B n i:Nat}{h:Hd}(q:SH B n h)(hi:i < n)(y:Int):SH B n (h.set (B + i) (.lst [.int y])) where
  st:=fun j hj=>by
    obtain⟨z,ez⟩:=q.st j hj
    by_cases ij:i=j
    · subst ij;exact⟨y,List.getElem?_set_self (List.getElem?_eq_some_iff.mp ez).1⟩
    · exact⟨z,by rw [List.getElem?_set_ne fun q=>ij (Nat.add_left_cancel q)];exact ez⟩
  sts:=by rw [List.getElem?_set_ne (by omega)];exact q.sts
theorem SH.more {B n:Nat}{h:Hd}(q:SH B n h)(g:Hd):SH B n (h++g):=⟨fun i hi=>let ⟨y,e⟩:=q.st i hi;⟨y,dL g e⟩,dL g q.sts⟩
theorem dig {B n:Nat}{h0:Hd}(S:SH B n h0){k:Nat}(hk:k < n)(m:Int)(m0:0 < m)(m1:m < 2 ^ 250)(σ:Sd){e:EF}(pe:e σ h0=.ok (.ref (B + k)) h0):∃ x y:Int,ar aw (af e (af (fC (.int m)) aq)) σ h0=.ok (.int x) (h0.set (B + k) (.lst [.int y]))∧0≤x∧x < m:=by
  obtain⟨x,ex⟩:=S.st k hk
  exact⟨x % m,x / m,aA (bU pe rfl) (bj ex m0 m1),Int.emod_nonneg x (Int.ne_of_gt m0),Int.emod_lt_of_pos x m0⟩
theorem By {w:Web}{n B:Nat}{h:Hd}(W:w.Ok n)(n30:n≤30)(T:SH B n h){A:Nat}(hA:A=h.length)(hB:B + n < A):∃ l h',ei [w.enc,.ref (B + n)] h=.ok (.ref A) h'∧h'.length=A + 1∧Ch w n l∧SH B n h'∧h'[A]? = some (.lst (NL l)) ∧ ∀ j,j < A→(j < B∨B + n≤j)→h'[j]? = h[j]? := by
  have s1:aT (gN 2) (cj aq) [some w.enc,some (.ref (B + n)),none,none] h=.nx [some w.enc,some (.ref (B + n)),some (.ref A),none] (h++[.lst []]):=bn (eT hA rfl (Nat.zero_le _))
  obtain⟨σ',h',q1,l,a,q2,q3,q4,q5,q6,q7,q8,q9⟩:=cZ (P:=fun i σ h'=>∃ l a,σ = [some w.enc,some (.ref (B + n)),some (.ref A),a]∧h'.length=A + 1∧SH B n h'∧h'[A]? = some (.lst (NL l))∧l.Pairwise (· < ·)∧(∀ p∈l,p < i∧p < n)∧(∀ p∈l,w.stays.getD p none≠some 0) ∧ ∀ j,j < A→(j < B∨B + n≤j)→h'[j]? = h[j]?) (g:=none) (k:=0) (all:=(List.range n).map fun k:Nat=>D.int k) (fun _ _ _ _=>trivial) (xs:=(List.range n).map fun k:Nat=>D.int k) (tg:=gN 3) (b:=l8) (σ:=[some w.enc,some (.ref (B + n)),some (.ref A),none]) (h:=h++[.lst []]) (by
    rintro i x σ h0 hx ⟨l,a,rfl,q3,q4,q5,q6,q7,q8,q9⟩
    obtain⟨hi,rfl⟩:=cO hx
    rw [Nat.zero_add] at q7 ⊢
    refine⟨_,rfl,?_⟩
    obtain⟨x,y,d1,x0,x1⟩:=dig q4 hi 2 (by decide) (by decide) [some w.enc,some (.ref (B + n)),some (.ref A),some (.int i)] (e:=fAt (aa 1) (aa 3)) (a0 rfl rfl (ba q4.sts) (eV hi))
    have q4':=q4.set hi y
    obtain⟨h1,hh1⟩ : ∃ h1,h1=h0.set (B + i) (.lst [.int y]):=⟨_,rfl⟩
    rw [← hh1] at d1 q4'
    have r3:h1.length=A + 1:=by rw [hh1,List.length_set];exact q3
    have r5:h1[A]? = some (.lst (NL l)):=by rw [hh1,List.getElem?_set_ne (by omega)];exact q5
    have r9:∀ j,j < A→(j < B∨B + n≤j)→h1[j]? = h[j]? := fun j h1 h2=>by rw [hh1,List.getElem?_set_ne (by omega)];exact q9 j h1 h2
    have c1:tE (ak oEq (ar aw (af (fAt (aa 1) (aa 3)) (af (fC (.int 2)) aq))) (fC (.int 1))) [some w.enc,some (.ref (B + n)),some (.ref A),some (.int i)] h0=.ok (decide (x=1)) h1:=bh (ax d1 rfl sH)
    have c2:tE (ak oNe (fAt (fAt (aa 0) (fC (.int 2))) (aa 3)) (fC (.int 0))) [some w.enc,some (.ref (B + n)),some (.ref A),some (.int i)] h1=.ok (decide (w.stays.getD i none≠some 0)) h1:=bh (ax (a0 (a0 rfl rfl rfl rfl) rfl rfl (Bw W hi)) rfl (uB _ _))
    by_cases e1:x=1
    · rw [decide_eq_true e1] at c1
      by_cases e2:w.stays.getD i none≠some 0
      · rw [decide_eq_true e2] at c2
        have ll:l.length≤n:=pI q6 fun p hp=>(q7 p hp).2
        have lz:(NL l).length < SZ:=by rw [List.length_map];exact Nat.lt_of_le_of_lt (Nat.le_trans ll n30) (by decide)
        refine⟨_,_,(kq (kr c1 c2)).trans (lW (uh rfl r5 rfl r5 lz)),l++[i],_,rfl,by rw [List.length_set];exact r3,⟨fun j hj=>by rw [List.getElem?_set_ne (by omega)];exact q4'.st j hj,by rw [List.getElem?_set_ne (by omega)];exact q4'.sts⟩,?_,?_,?_,?_,fun j h1 h2=>by rw [List.getElem?_set_ne (by omega)];exact r9 j h1 h2⟩
        · rw [List.getElem?_set_self (by omega)]
          unfold NL;rw [List.map_append];rfl
        · rw [List.pairwise_append]
          exact⟨q6,List.pairwise_singleton _ _,fun p hp r hr=>by rw [List.mem_singleton.mp hr];exact (q7 p hp).1⟩
        · intro p hp
          rcases List.mem_append.mp hp with hp|hp
          · exact⟨Nat.lt_succ_of_lt (q7 p hp).1,(q7 p hp).2⟩
          · rw [List.mem_singleton.mp hp];exact⟨Nat.lt_succ_self _,hi⟩
        · intro p hp
          rcases List.mem_append.mp hp with hp|hp
          · exact q8 p hp
          · rw [List.mem_singleton.mp hp];exact e2
      · rw [decide_eq_false e2] at c2
        exact⟨_,_,(d9 (kr c1 c2)).trans rfl,l,_,rfl,r3,q4',r5,q6,fun p hp=>⟨Nat.lt_succ_of_lt (q7 p hp).1,(q7 p hp).2⟩,q8,r9⟩
    · rw [decide_eq_false e1] at c1
      exact⟨_,_,(d9 (Bi c1)).trans rfl,l,_,rfl,r3,q4',r5,q6,fun p hp=>⟨Nat.lt_succ_of_lt (q7 p hp).1,(q7 p hp).2⟩,q8,r9⟩) ⟨[],none,rfl,by rw [List.length_append,hA];rfl,T.more _,eS hA _,List.Pairwise.nil,fun _ z=>absurd z List.not_mem_nil,fun _ z=>absurd z List.not_mem_nil,fun j h1 h2=>List.getElem?_append_left (by rw [← hA];exact h1)⟩
  subst q2
  have ll:((List.range n).map fun i=>D.ref (B + i)).length=n:=by rw [List.length_map,List.length_range]
  have s2:iU (bm (cX (lOf (aa 1)))) (gN 3) l8 [some w.enc,some (.ref (B + n)),some (.ref A),none] (h++[.lst []])=.nx [some w.enc,some (.ref (B + n)),some (.ref A),a] h':=lX (eY (dc (cL rfl (ba (T.more _).sts))) (by rw [ll];exact Nat.le_trans n30 (by decide))) (by rw [ll];exact q1)
  exact⟨l,h',(cq rfl rfl ((aW s1).trans ((aW s2).trans (bA rfl)))).trans ph,q3,⟨q6,fun p hp=>(q7 p hp).2,q8⟩,q4,q5,q9⟩
end Fm
set_option linter.all false
namespace Fm
theorem Bz:∀ n,(List.replicate n [D.non]).flatten=(List.replicate n (none:Option Int)).map bz
  | 0=>rfl
  | n + 1=>by rw [List.replicate_succ,List.replicate_succ,List.flatten_cons,Bz n];rfl
theorem G5 {h:Hd}{B:Nat}{x:Int}(hx:h[B]? = some (.lst [.int x]))(B0:0 < B)(hx0:∃ y,h[0]? = some (.lst [.int y])):∃ n w h',gj [.ref B] h=.ok w.enc h'∧n≤30∧w.Ok n∧cG w∧(∀ f s,S2 (fun i=>w.ties.getD i []) f s n=S2 (fun i=>w.ties.getD i []) s f n)
    ∧ (∀ i,i < n→0≤w.bars.getD i 0∧w.bars.getD i 0≤2000)∧(∀ i,i < n→ku (w.ties.getD i [])≤2000 ∧ ∀ p∈w.ties.getD i [],1≤p.2) ∧ ∃ y,h'[0]? = some (.lst [.int y]):=by
  have hBl:B < h.length:=(List.getElem?_eq_some_iff.mp hx).1
  obtain⟨A,hA⟩ : ∃ A,A=h.length:=⟨_,rfl⟩
  have hB:B < A:=by omega
  have d1:=bj hx (show (0:Int) < 28 by omega) (by simp)
  have g1:(h.set B (.lst [.int (x / 28)]))[B]? = some (.lst [.int (x / 28)]):=by rw [List.getElem?_set_self hBl]
  have d2:=bj g1 (show (0:Int) < 2 by omega) (by simp)
  rw [List.set_set] at d2
  have g2:(h.set B (.lst [.int (x / 28 / 2)]))[B]? = some (.lst [.int (x / 28 / 2)]):=by rw [List.getElem?_set_self hBl]
  have d3:=bj g2 (show (0:Int) < 2 by omega) (by simp)
  rw [List.set_set] at d3
  have b0:=Int.emod_nonneg x (show (28:Int)≠0 by omega)
  have b1:=Int.emod_lt_of_pos x (show (0:Int) < 28 by omega)
  obtain⟨n,hn⟩ : ∃ n:Nat,(n:Int)=3 + x % 28:=⟨(3 + x % 28).toNat,by omega⟩
  have n3:3≤n:=by omega
  have n30:n≤30:=by omega
  obtain⟨r,hr⟩ : ∃ r,r=x / 28 % 2:=⟨_,rfl⟩
  have r0:r=0∨r=1:=by omega
  obtain⟨gg,hgg⟩ : ∃ g:Nat,(g:Int)=x / 28 / 2 % 2:=⟨(x / 28 / 2 % 2).toNat,by omega⟩
  have gg1:gg≤1:=by omega
  obtain⟨h3,hh3⟩ : ∃ h3,h3=h.set B (.lst [.int (x / 28 / 2 / 2)]):=⟨_,rfl⟩
  rw [← hh3,← hgg] at d3
  rw [← hr] at d2
  have l3:h3.length=A:=by rw [hh3,List.length_set,hA]
  have g3:h3[B]? = some (.lst [.int (x / 28 / 2 / 2)]):=by rw [hh3,List.getElem?_set_self hBl]
  have s1:aT (gN 1) (ak bT (fC (.int 3)) (ar aw (af (aa 0) (af (fC (.int 28)) aq)))) [some (.ref B),none,none,none,none,none,none,none] h=.nx [some (.ref B),some (.int n),none,none,none,none,none,none] (h.set B (.lst [.int (x / 28)])):=by
    simp [d1,hn]
  have s2:aT (gN 2) (ar aw (af (aa 0) (af (fC (.int 2)) aq))) [some (.ref B),some (.int n),none,none,none,none,none,none] (h.set B (.lst [.int (x / 28)]))=.nx [some (.ref B),some (.int n),some (.int r),none,none,none,none,none] (h.set B (.lst [.int (x / 28 / 2)])):=by
    simp [d2]
  have s3:aT (gN 3) (ar aw (af (aa 0) (af (fC (.int 2)) aq))) [some (.ref B),some (.int n),some (.int r),none,none,none,none,none] (h.set B (.lst [.int (x / 28 / 2)]))=.nx [some (.ref B),some (.int n),some (.int r),some (.int gg),none,none,none,none] h3:=by
    simp [d3]
  obtain⟨ds,h4,k4,l4,v4,σ4,q4,hh4,g4,g5⟩:=gc (g:=none) (all:=(List.range n).map fun k:Nat=>D.int k) (tg:=gN 0) (xs:=(List.range n).map fun k:Nat=>D.int k) (k:=0)
    (e:=cj aq) (σ:=[none]) (h:=h3)
    (P:=fun i σ h=>(∃ a,σ = [a])∧h.length=A + i∧(∀ j,j < A→h[j]? = h3[j]?) ∧ ∀ j,j < i→h[A + j]? = some (.lst [])) (V:=fun i d=>d=.ref (A + i)) (fun _ _ _ _=>trivial) (by
      rintro i x σ h0 hx ⟨⟨a,rfl⟩,hl,e0,e1⟩
      obtain⟨hi,rfl⟩:=cO hx
      rw [Nat.zero_add] at hl e1 ⊢
      refine⟨_,rfl,.ref h0.length,h0++[.lst []],by simp [SZ],by rw [hl],⟨_,rfl⟩,by simp [hl];omega,fun j hj => ?_,fun j hj => ?_⟩
      · rw [List.getElem?_append_left (by omega)];exact e0 j hj
      · by_cases hji:j < i
        · rw [List.getElem?_append_left (by omega)];exact e1 j hji
        · have:j=i:=by omega
          subst this
          rw [List.getElem?_append_right (by omega)];simp [hl]) ⟨⟨_,rfl⟩,by omega,fun j _=>rfl,fun j hj=>by omega⟩
  simp at l4 hh4 g5
  have e4:ds=(List.range n).map fun i=>.ref (A + i):=iy l4 fun i d hd=>by simpa using v4 i d hd
  subst e4
  have z1 : -1000000≤(n:Int):=by omega
  have z2:(n:Int)≤1000000:=by omega
  have z3:n≤1000000:=by omega
  obtain⟨h5,hh5⟩ : ∃ h5,h5=h4++[.lst ((List.range n).map fun i=>.ref (A + i))]:=⟨_,rfl⟩
  have s4:aT (gN 4) (cj (bF 1 [] (bm (aa 1)) (gN 0) [] (cj aq))) [some (.ref B),some (.int n),some (.int r),some (.int gg),none,none,none,none] h3=.nx [some (.ref B),some (.int n),some (.int r),some (.int gg),some (.ref (A + n)),none,none,none] h5:=by
    rw [hh5]
    simp [z1,z2,k4,SZ,z3,hh4]
  have W5:WL A B n (fun _=>[]) h5:=by
    refine⟨⟨x / 28 / 2 / 2,?_⟩,fun i hi => ?_,?_,B0,?_⟩
    · rw [hh5,List.getElem?_append_left (by omega),g4 B hB];exact g3
    · rw [hh5,List.getElem?_append_left (by omega),g5 i hi];rfl
    · rw [hh5,List.getElem?_append_right (by omega)];simp [hh4]
    · obtain⟨y,ey⟩:=hx0
      exact⟨y,by rw [hh5,List.getElem?_append_left (by omega),g4 0 (by omega),hh3,List.getElem?_set_ne (by omega)];exact ey⟩
  have O5:LR n 0 (fun _=>[]):=⟨by simp,by simp,by simp,by simp,fun f s=>by
    have:∀ f s k,S2 (fun _=>[]) f s k=0:=fun f s k=>by induction k with
      | zero=>rfl
      | succ k ih=>simp [S2,ih]
    rw [this,this],by simp⟩
  obtain⟨a6,b6,R,h6,k6,W6,O6,L6⟩:=CC hB n3 n30 (M:=n - 1 + gg) (by omega) (r:=r) (g:=gg) r0 W5 O5
  have L6':h6.length=A + n + 1:=by rw [L6,hh5];simp [hh4]
  have s5:iU (bm (ak bT (ak ig (aa 1) (fC (.int 1))) (aa 3))) (gN 5) jP [some (.ref B),some (.int n),some (.int r),some (.int gg),some (.ref (A + n)),none,none,none] h5=.nx [some (.ref B),some (.int n),some (.int r),some (.int gg),some (.ref (A + n)),a6,b6,none] h6:=by
    have y1 : -1000000≤(n:Int) - 1 + gg:=by omega
    have y2:(n:Int) - 1 + gg≤1000000:=by omega
    have y3:((n:Int) - 1 + gg).toNat=n - 1 + gg:=by omega
    simp [y1,y2,y3,k6]
  have rs:∀ i,0≤((R i).map (·.2)).sum∧((R i).map (·.2)).sum≤2000∧ku (R i)=((R i).map (·.2)).sum:=fun i=>by
    have hl:=O6.len i
    have:∀ l:List (Nat × Int),(∀ p∈l,1≤p.2∧p.2≤31)→0≤(l.map (·.2)).sum∧(l.map (·.2)).sum≤31 * l.length∧ku l=(l.map (·.2)).sum:=by
      intro l
      induction l with
      | nil=>intro _;simp [ku]
      | cons p l ih =>
        intro hp
        have h1:=hp p (by simp)
        have h2:=ih fun q hq=>hp q (by simp [hq])
        simp [ku] at h2 ⊢
        omega
    have:=this (R i) fun p hp=>O6.wt i p hp
    omega
  have inner:∀ i,i < n → ∀ σ0:Option D,kI (bF 2 [] (eW (aa 0)) (gT [0,1]) [] (aa 1)) [some (.ref (A + i))] h6=.ok (.int ((R i).map (·.2)).sum) h6:=fun i hi _=>by
    have ti:=W6.ti i hi
    have comp:bQ (some (A + i)) ((R i).map cK) (gT [0,1]) [] (aa 1) ((R i).map cK) [none,none] h6=.ok (((R i).map (·.2)).map D.int) h6:=by
      have:=bJ (g:=some (A + i)) (all:=(R i).map cK) (tg:=gT [0,1]) (cs:=[]) (e:=aa 1) (h:=h6) (I:=fun σ=>∃ a b,σ = [a,b]) (fun _=>true) (fun d=>match d with | .tup [_,x]=>x|_=>.non) ti (xs:=(R i).map cK) (σ:=[none,none]) (by
        rintro x hx σ ⟨a,b,rfl⟩
        obtain⟨q,hq,rfl⟩:=List.mem_map.mp hx
        exact⟨_,rfl,⟨_,_,rfl⟩,rfl,fun _=>rfl⟩) ⟨_,_,rfl⟩
      rw [this,List.filter_eq_self.mpr (by simp),List.map_map,List.map_map]
      rfl
    simp [ti,comp,jN,-List.map_map]
  have outer:bQ (some (A + n)) ((List.range n).map fun i=>.ref (A + i)) (gN 0) [] (kI (bF 2 [] (eW (aa 0)) (gT [0,1]) [] (aa 1))) ((List.range n).map fun i=>.ref (A + i)) [none] h6=.ok (((List.range n).map fun i=>((R i).map (·.2)).sum).map D.int) h6:=by
    have:=bJ (g:=some (A + n)) (all:=(List.range n).map fun i=>.ref (A + i)) (tg:=gN 0) (cs:=[]) (e:=kI (bF 2 [] (eW (aa 0)) (gT [0,1]) [] (aa 1))) (h:=h6) (I:=fun σ=>∃ a,σ = [a]) (fun _=>true) (fun d=>match d with | .ref k=>.int ((R (k - A)).map (·.2)).sum|_=>.non) W6.tis (xs:=(List.range n).map fun i=>.ref (A + i)) (σ:=[none]) (by
      rintro x hx σ ⟨a,rfl⟩
      obtain⟨i,hi,rfl⟩:=List.mem_map.mp hx
      have hi:=List.mem_range.mp hi
      refine⟨_,rfl,⟨_,rfl⟩,rfl,fun _ => ?_⟩
      have:=inner i hi none
      simp only [Nat.add_sub_cancel_left]
      exact this) ⟨_,rfl⟩
    rw [this,List.filter_eq_self.mpr (by simp),List.map_map,List.map_map]
    congr 1
    apply List.map_congr_left
    intro i _
    simp
  obtain⟨bs0,hbs0⟩ : ∃ bs0,bs0=(List.range n).map fun i=>((R i).map (·.2)).sum:=⟨_,rfl⟩
  rw [← hbs0] at outer
  have lb0:bs0.length=n:=by rw [hbs0];simp
  have ob0:∀ b∈bs0,0≤b∧b≤2000:=fun b hb=>by
    rw [hbs0] at hb
    obtain⟨i,_,rfl⟩:=List.mem_map.mp hb
    exact⟨(rs i).1,(rs i).2.1⟩
  have t6:=W6.tis
  obtain⟨h7,hh7⟩ : ∃ h7,h7=h6++[.lst (bs0.map .int)]:=⟨_,rfl⟩
  have s6:aT (gN 7) (cj (bF 1 [] (eW (aa 4)) (gN 0) [] (kI (bF 2 [] (eW (aa 0)) (gT [0,1]) [] (aa 1))))) [some (.ref B),some (.int n),some (.int r),some (.int gg),some (.ref (A + n)),a6,b6,none] h6
      = .nx [some (.ref B),some (.int n),some (.int r),some (.int gg),some (.ref (A + n)),a6,b6,some (.ref (A + n + 1))] h7:=by
    have lz:bs0.length≤1000000:=by omega
    rw [hh7]
    clear inner
    generalize (kI (bF 2 [] (eW (aa 0)) (gT [0,1]) [] (aa 1)))=E at outer ⊢
    simp [t6,outer,SZ,lz]
    omega
  have W7:WL A B n R h7:=by rw [hh7];exact W6.more _
  have bar7:h7[A + n + 1]? = some (.lst (bs0.map .int)):=by rw [hh7,List.getElem?_append_right (by omega)];simp [L6']
  have L7:h7.length=A + n + 2:=by rw [hh7];simp [L6']
  obtain⟨y7,ey7⟩:=W7.hd
  have d7:=bj ey7 (show (0:Int) < 3 by omega) (by simp)
  obtain⟨h8,hh8⟩ : ∃ h8,h8=h7.set B (.lst [.int (y7 / 3)]):=⟨_,rfl⟩
  rw [← hh8] at d7
  have W8:WL A B n R h8:=by rw [hh8];exact W7.setB hB _
  have bar8:h8[A + n + 1]? = some (.lst (bs0.map .int)):=by rw [hh8,List.getElem?_set_ne (by omega)];exact bar7
  have L8:h8.length=A + n + 2:=by rw [hh8];simp [L7]
  generalize y7 % 3=way at d7
  have s8:∃ (a:Nat) (bs:List Int) (h9:Hd),sIf (tE (ak oGt (ar aw (af (aa 0) (af (fC (.int 3)) aq))) (fC (.int 0)))) (aT (gN 7) (cj (bF 1 [] (eW (aa 4)) (gN 0) [] (fC (.int 1))))) b9 [some (.ref B),some (.int n),some (.int r),some (.int gg),some (.ref (A + n)),a6,b6,some (.ref (A + n + 1))] h7
      = .nx [some (.ref B),some (.int n),some (.int r),some (.int gg),some (.ref (A + n)),a6,b6,some (.ref a)] h9∧WL A B n R h9∧h9[a]? = some (.lst (bs.map .int))∧bs.length=n∧(∀ b∈bs,0≤b∧b≤2000)∧A + n < a:=by
    by_cases e:0 < way
    · have t8:=W8.tis
      have ones:bQ (some (A + n)) ((List.range n).map fun i=>.ref (A + i)) (gN 0) [] (fC (.int 1)) ((List.range n).map fun i=>.ref (A + i)) [none] h8=.ok ((List.replicate n 1).map D.int) h8:=by
        have:=bJ (g:=some (A + n)) (all:=(List.range n).map fun i=>.ref (A + i)) (tg:=gN 0) (cs:=[]) (e:=fC (.int 1)) (h:=h8) (I:=fun σ=>∃ a,σ = [a]) (fun _=>true) (fun d=>.int 1) W8.tis (xs:=(List.range n).map fun i=>.ref (A + i)) (σ:=[none]) (by
          rintro x hx σ ⟨a,rfl⟩
          obtain⟨i,hi,rfl⟩:=List.mem_map.mp hx
          exact⟨_,rfl,⟨_,rfl⟩,rfl,fun _=>rfl⟩) ⟨_,rfl⟩
        rw [this,List.filter_eq_self.mpr (by simp),List.map_map]
        congr 1
        rw [List.map_replicate]
        apply List.ext_getElem?
        intro i
        by_cases hi:i < n<;>simp [hi]
      refine⟨A + n + 2,List.replicate n 1,h8++[.lst ((List.replicate n 1).map .int)],?_,W8.more _,?_,by simp,fun b hb => ?_,by omega⟩
      · simp only [List.map_replicate] at ones
        refine (kq (bh (ax (aA (bU rfl rfl) d7) rfl (y4 e)))).trans (bn ((eT (xs:=List.replicate n (D.int 1)) rfl (eh (Bl rfl t8) ones) (by rw [List.length_replicate];exact z3)).trans ?_))
        rw [L8,List.map_replicate]
      · rw [List.getElem?_append_right (by omega)];simp [L8]
      · have:=List.eq_of_mem_replicate hb
        omega
    · exact⟨A + n + 1,bs0,h8,(d9 (bh (ax (aA (bU rfl rfl) d7) rfl (pq e)))).trans rfl,W8,bar8,lb0,ob0,by omega⟩
  obtain⟨a,bs,h12,s8,W12,bar12,lb10,ob10,ha⟩:=s8
  have ct:bQ (some (A + n)) ((List.range n).map fun i=>.ref (A + i)) (gN 0) [] (cY (jb (aa 0))) ((List.range n).map fun i=>.ref (A + i)) [none] h12
      = .ok (((List.range n).map fun i=>iO (R i)).map lU) h12:=by
    have:=bJ (g:=some (A + n)) (all:=(List.range n).map fun i=>.ref (A + i)) (tg:=gN 0) (cs:=[]) (e:=cY (jb (aa 0))) (h:=h12) (I:=fun σ=>∃ a,σ = [a]) (fun _=>true)
      (fun d=>match d with | .ref k=>lU (iO (R (k - A)))|_=>.non) W12.tis (xs:=(List.range n).map fun i=>.ref (A + i)) (σ:=[none]) (by
        rintro x hx σ ⟨a,rfl⟩
        obtain⟨i,hi,rfl⟩:=List.mem_map.mp hx
        have hi:=List.mem_range.mp hi
        refine⟨_,rfl,⟨_,rfl⟩,rfl,fun _ => ?_⟩
        have t:=W12.ti i hi
        have so:=xh (O6.nd i) (by have:=O6.len i;omega)
        simp only [List.set_cons_zero,cY,jb,cI,aa,slot,List.getElem?_cons_zero,aI,t,so,lU,Nat.add_sub_cancel_left]) ⟨_,rfl⟩
    rw [this,List.filter_eq_self.mpr (by simp),List.map_map,List.map_map]
    congr 1
    apply List.map_congr_left
    intro i _
    simp
  obtain⟨w,hw⟩ : ∃ w:Web,w=⟨(List.range n).map fun i=>iO (R i),bs,List.replicate n none⟩:=⟨_,rfl⟩
  have t12:=W12.tis
  have s13:bc (gw (af (cY (bF 1 [] (eW (aa 4)) (gN 0) [] (cY (jb (aa 0))))) (af (cY (lOf (aa 7))) (af (ak Bd (gw (af (fC .non) aq)) (aa 1)) aq)))) [some (.ref B),some (.int n),some (.int r),some (.int gg),some (.ref (A + n)),a6,b6,some (.ref a)] h12
      = .rt w.enc h12:=by
    have rp:=Bz n
    have n2:(2:Int)≤n:=by omega
    have n2':2≤n:=by omega
    have n1000:n≤1000:=by omega
    generalize (cY (jb (aa 0)))=E at ct ⊢
    simp [t12,ct,bar12,SZ,n2,n2',n1000,rp,hw,Web.enc]
  have fin:∃ h',letGo h (.ok w.enc h12)=.ok w.enc h' ∧ ∃ y,h'[0]? = some (.lst [.int y]):=by
    unfold letGo
    dsimp only
    obtain⟨y,ey⟩:=W12.z.2
    split
    · exact⟨_,rfl,y,by rw [List.getElem?_take_of_lt (by omega)];exact ey⟩
    · exact⟨_,rfl,y,ey⟩
  obtain⟨h',fin,fin0⟩:=fin
  have tg:∀ i,i < n→w.ties.getD i [] = iO (R i):=fun i hi=>by rw [hw];simp [List.getD,hi]
  refine⟨n,w,h',?_,n30,⟨by rw [hw];simp,by rw [hw];exact lb10,by rw [hw];simp,fun r hr p hp => ?_,by omega⟩,fun x hx => ?_,fun f s => ?_,fun i hi => ?_,fun i hi => ?_,fin0⟩
  · have st0:([D.ref B].map some++List.replicate (8 - [D.ref B].length) none:Sd)=[some (.ref B),none,none,none,none,none,none,none]:=rfl
    unfold gj bM runB
    rw [if_pos (show [D.ref B].length=1 from rfl),st0,dj s1,dj s2,dj s3,dj s4,dj s5,dj s6,dj s8,s13]
    exact fin
  · rw [hw] at hr
    obtain⟨i,_,rfl⟩:=List.mem_map.mp hr
    exact O6.lt i p (mo hp)
  · rw [hw] at hx
    exact .inl (List.eq_of_mem_replicate hx)
  · have:∀ f s m,m≤n→S2 (fun i=>w.ties.getD i []) f s m=S2 R f s m:=fun f s m=>by
      induction m with
      | zero=>intro _;rfl
      | succ m ih =>
        intro hm
        rw [S2,S2,ih (by omega),tg m (by omega),mr]
    rw [this f s n (Nat.le_refl _),this s f n (Nat.le_refl _)]
    exact O6.sym f s
  · have:w.bars.getD i 0∈bs:=by
      rw [hw]
      simp only [List.getD]
      rw [List.getElem?_eq_getElem (show i < bs.length by omega)]
      exact List.getElem_mem _
    exact ob10 _ this
  · rw [tg i hi]
    refine⟨?_,fun p hp=>(O6.wt i p (mo hp)).1⟩
    have e:ku (iO (R i))=ku (R i):=mr _ _
    rw [e]
    have:=rs i
    omega
theorem jY (f:List Int):∀ r:List (Nat × Int),(∀ p∈r,1≤p.2)→0≤bN r f
  | [],_=>by simp [bN,fG]
  | p :: r,h=>by
    have ih:=jY f r fun q hq=>h q (by simp [hq])
    have hp:=h p (by simp)
    simp only [bN,fG,List.filter_cons] at ih ⊢
    split
    · simp only [List.map_cons,List.sum_cons];omega
    · exact ih
theorem zG {w:Web}{n:Nat}{f s:List Int}(Ff:cn w n f)(Fs:cn w n s)(hb:∀ i,i < n→0≤w.bars.getD i 0∧w.bars.getD i 0≤2000)(ht:∀ i,i < n→ku (w.ties.getD i [])≤2000 ∧ ∀ p∈w.ties.getD i [],1≤p.2):∀ m,m≤n → -(8002 * (m:Int))≤de w f s m∧de w f s m≤8002 * (m:Int)
  | 0,_=>by simp [de]
  | m + 1,hm=>by
    have ih:=zG Ff Fs hb ht m (by omega)
    have b0:=dD Ff m
    have b1:=dD Fs m
    have hb':=hb m (by omega)
    have ht':=ht m (by omega)
    have p0:=jY f _ ht'.2
    have p1:=sJ (w.ties.getD m []) f
    have p2:=ht'.1
    simp only [de,iz]
    generalize w.bars.getD m 0=b at *
    generalize bN (w.ties.getD m []) f=P at *
    generalize ku (w.ties.getD m [])=A at *
    generalize de w f s m=T at *
    rcases b0 with z|z<;>rcases b1 with y|y<;>simp only [z,y]<;>simp<;>omega
end Fm
set_option linter.all false
namespace Fm
theorem SH.take {B n m:Nat}{h:Hd}(q:SH B n h)(hm:B + n < m):SH B n (h.take m):=⟨fun i hi=>let ⟨y,e⟩:=q.st i hi;⟨y,by rw [List.getElem?_take_of_lt (by omega)];exact e⟩,by rw [List.getElem?_take_of_lt hm];exact q.sts⟩
theorem EU (u:Option Int)(h:Hd):oEq (bz u) (.int 0) h=.ok (.bl (decide (u=some 0))) h:=by
  cases u with
  | none=>rfl
  | some v =>
    show oEq (.int v) (.int 0) h=_
    rw [sH]
    by_cases e:v=0
    · rw [decide_eq_true e,decide_eq_true (by rw [e])]
    · rw [decide_eq_false e,decide_eq_false (fun z=>e (Option.some.inj z))]
theorem EV {l:List D}{k:Nat}(hk:k≤l.length):cut l (some (k:Int)) none=l.drop k:=by
  have e:sIx l.length 0 (some (k:Int))=k:=by
    show (if (k:Int) < 0 then ((k:Int) + (l.length:Nat)).toNat else min ((k:Int)).toNat l.length)=_
    rw [if_neg (by omega),Int.toNat_natCast,Nat.min_eq_left hk]
  unfold cut
  rw [e]
  exact List.take_of_length_le (by rw [List.length_drop];exact Nat.le_refl _)
theorem mw (ss:List (Option Int))(u:Option Int):free (ss++[u])=free ss + if u=none then 1 else 0:=by
  unfold free
  rw [List.countP_append]
  cases u<;>rfl
theorem CK {ss:List (Option Int)}{i:Nat}(h:i < ss.length):free (ss.drop i)=(if ss.getD i none=none then 1 else 0) + free (ss.drop (i + 1)):=by
  unfold free
  rw [List.drop_eq_getElem_cons h,List.countP_cons,Nat.add_comm,List.getD_eq_getElem?_getD,List.getElem?_eq_getElem h]
  cases ss[i]<;>rfl
structure SwI (w:Web) (n A:Nat) (way:Int) (i:Nat) (σ:Sd) (h:Hd):Prop where
  ex:∃ (bs:List Int) (ss:List (Option Int)) (a6 a7 a8 a9:Option D),σ = [some w.enc,some (.ref (1 + n)),some (.ref 0),some (.int way),some (.ref A),some (.ref (A + 1)),a6,a7,a8,a9]∧h[A]? = some (.lst (bs.map .int))∧h[A + 1]? = some (.lst (ss.map bz))∧bs.length=i∧ss.length=i∧(∀ x∈ss,x=none∨x=some 0∨x=some 1)∧free ss + free (w.stays.drop i)≤8
  len:h.length=A + 2
  sh:SH 1 n h
  hd:∃ x,h[0]? = some (.lst [.int x])
section
variable {w:Web} {n A:Nat}
theorem G6 (r:List (Nat × Int))(σ:Sd){e:EF}{h:Hd}(p:e σ h=.ok (lU r) h):kI (bF 2 [] (eW e) (gT [0,1]) [] (aa 1)) σ h=.ok (.int (r.map (·.2)).sum) h:=by
  have comp:bQ none (r.map cK) (gT [0,1]) [] (aa 1) (r.map cK) [none,none] h=.ok ((r.map (·.2)).map D.int) h:=by
    have:=bJ (g:=none) (all:=r.map cK) (tg:=gT [0,1]) (cs:=[]) (e:=aa 1) (h:=h) (I:=fun σ=>∃ a b,σ = [a,b]) (fun _=>true) (fun d=>match d with | .tup [_,x]=>x|_=>.non) trivial (xs:=r.map cK) (σ:=[none,none]) (by
      rintro x hx σ ⟨a,b,rfl⟩
      obtain⟨q,hq,rfl⟩:=List.mem_map.mp hx
      exact⟨_,rfl,⟨_,_,rfl⟩,rfl,fun _=>rfl⟩) ⟨_,_,rfl⟩
    rw [this,List.filter_eq_self.mpr (by simp),List.map_map,List.map_map]
    rfl
  exact Ev (eh (pr p) comp) (jN _)
theorem G7 (W:w.Ok n)(n30:n≤30)(S:cG w)(wt:∀ r∈w.ties,∀ p∈r,1≤p.2∧p.2≤400)(ris:∀ r∈w.ties,r.Pairwise fun p q=>p.1 < q.1)(hA:n + 1 < A){way:Int}(hw:way=1∨way=2){i:Nat}(hi:i < n){σ:Sd}{h:Hd}(I:SwI w n A way i σ h):∃ σ' h',fg (σ.set 6 (some (.int (i:Nat)))) h=.nx σ' h'∧SwI w n A way (i + 1) σ' h':=by
  obtain⟨⟨bs,ss,a6,a7,a8,a9,rfl,hb,hs,lb,ls,os,fr⟩,len,sh,hd⟩:=I
  show ∃ σ' h',fg [some w.enc,some (.ref (1 + n)),some (.ref 0),some (.int way),some (.ref A),some (.ref (A + 1)),some (.int i),a7,a8,a9] h=.nx σ' h'∧_
  have ht:i < w.ties.length:=W.t.symm ▸ hi
  obtain⟨r,hr⟩ : ∃ r,r=w.ties[i]:=⟨_,rfl⟩
  have rm:r∈w.ties:=hr ▸ List.getElem_mem ht
  have at1:fAt (fAt (aa 0) (fC (.int 0))) (aa 6) [some w.enc,some (.ref (1 + n)),some (.ref 0),some (.int way),some (.ref A),some (.ref (A + 1)),some (.int i),a7,a8,a9] h=.ok (lU r) h:=a0 (a0 rfl rfl rfl rfl) rfl rfl (cT (by rw [List.getElem?_map,List.getElem?_eq_getElem ht,← hr];rfl))
  obtain⟨T,hT⟩ : ∃ T,T=(r.map (·.2)).sum:=⟨_,rfl⟩
  have su:=G6 r _ at1
  rw [← hT] at su
  have sl:=EM r (wt r rm)
  have lr:r.length < 64:=(Bt n30 (ris r rm) fun p hp=>W.lt r rm p hp).1
  rw [← hT] at sl
  have s1:=bn (i:=7) su
  have at2:∀ a7 a8 a9:Option D,fAt (aa 1) (aa 6) [some w.enc,some (.ref (1 + n)),some (.ref 0),some (.int way),some (.ref A),some (.ref (A + 1)),some (.int i),a7,a8,a9] h=.ok (.ref (1 + i)) h:=fun a7 a8 a9=>a0 rfl rfl (ba sh.sts) (eV hi)
  obtain⟨x,ex⟩:=sh.st i hi
  have dg:=bj ex (m:=T + 1) (by omega) (by
    have:T + 1 < 2 ^ 20:=by omega
    exact Int.lt_trans this (by decide))
  obtain⟨h1,hh1⟩ : ∃ h1,h1=h.set (1 + i) (.lst [.int (x / (T + 1))]):=⟨_,rfl⟩
  obtain⟨od,hod⟩ : ∃ od,od=2 * (x % (T + 1)) - 1:=⟨_,rfl⟩
  rw [← hh1] at dg
  have sh1:=sh.set hi (x / (T + 1))
  rw [← hh1] at sh1
  have s2:aT (gN 8) (ak ig (ak fj (fC (.int 2)) (ar aw (af (fAt (aa 1) (aa 6)) (af (ak bT (aa 7) (fC (.int 1))) aq)))) (fC (.int 1))) [some w.enc,some (.ref (1 + n)),some (.ref 0),some (.int way),some (.ref A),some (.ref (A + 1)),some (.int i),some (.int T),a8,a9] h=.nx [some w.enc,some (.ref (1 + n)),some (.ref 0),some (.int way),some (.ref A),some (.ref (A + 1)),some (.int i),some (.int T),some (.int od),a9] h1:=by
    rw [hod]
    exact bn (ax (ax rfl (aA (bU (at2 _ _ _) (ax rfl rfl rfl)) dg) (Bj (by decide))) rfl rfl)
  have hb1:h1[A]? = some (.lst (bs.map .int)):=by rw [hh1,List.getElem?_set_ne (by omega)];exact hb
  have hs1:h1[A + 1]? = some (.lst (ss.map bz)):=by rw [hh1,List.getElem?_set_ne (by omega)];exact hs
  have len1:h1.length=A + 2:=by rw [hh1,List.length_set];exact len
  have hd1:∃ x,h1[0]? = some (.lst [.int x]):=by obtain⟨z,ez⟩:=hd;exact⟨z,by rw [hh1,List.getElem?_set_ne (by omega)];exact ez⟩
  obtain⟨v,hv⟩ : ∃ v:Int,atI [.int 0,.int T,.int od] way=some (.int v):=by rcases hw with rfl|rfl<;>exact⟨_,rfl⟩
  obtain⟨h2,hh2⟩ : ∃ h2,h2=h1.set A (.lst (bs.map .int++[.int v])):=⟨_,rfl⟩
  have s3:gQ (ik (aa 4) (fIx (af (fC (.int 0)) (af (aa 7) (af (aa 8) aq))) (aa 3))) [some w.enc,some (.ref (1 + n)),some (.ref 0),some (.int way),some (.ref A),some (.ref (A + 1)),some (.int i),some (.int T),some (.int od),a9] h1=.nx [some w.enc,some (.ref (1 + n)),some (.ref 0),some (.int way),some (.ref A),some (.ref (A + 1)),some (.int i),some (.int T),some (.int od),a9] h2:=by
    rw [hh2]
    exact lW (uh rfl hb1 (Et (bq rfl (bU rfl rfl)) rfl hv) hb1 (by rw [List.length_map,lb];exact Nat.lt_of_lt_of_le hi (Nat.le_trans n30 (by decide))))
  have hb2:h2[A]? = some (.lst ((bs++[v]).map .int)):=by rw [hh2,List.getElem?_set_self (by omega),List.map_append];rfl
  have hs2:h2[A + 1]? = some (.lst (ss.map bz)):=by rw [hh2,List.getElem?_set_ne (by omega)];exact hs1
  have len2:h2.length=A + 2:=by rw [hh2,List.length_set];exact len1
  have sh2:SH 1 n h2:=⟨fun j hj=>by rw [hh2,List.getElem?_set_ne (by omega)];exact sh1.st j hj,by rw [hh2,List.getElem?_set_ne (by omega)];exact sh1.sts⟩
  have hd2:∃ x,h2[0]? = some (.lst [.int x]):=by obtain⟨z,ez⟩:=hd1;exact⟨z,by rw [hh2,List.getElem?_set_ne (by omega)];exact ez⟩
  obtain⟨u,hu⟩ : ∃ u,u=w.stays.getD i none:=⟨_,rfl⟩
  have ou:u=none∨u=some 0∨u=some 1:=by
    have h1:i < w.stays.length:=W.s.symm ▸ hi
    have:u∈w.stays:=by rw [hu,List.getD_eq_getElem?_getD,List.getElem?_eq_getElem h1];exact List.getElem_mem h1
    exact S u this
  have s4:aT (gN 9) (fAt (fAt (aa 0) (fC (.int 2))) (aa 6)) [some w.enc,some (.ref (1 + n)),some (.ref 0),some (.int way),some (.ref A),some (.ref (A + 1)),some (.int i),some (.int T),some (.int od),a9] h2=.nx [some w.enc,some (.ref (1 + n)),some (.ref 0),some (.int way),some (.ref A),some (.ref (A + 1)),some (.int i),some (.int T),some (.int od),some (bz u)] h2:=by
    rw [hu];exact bn (a0 (a0 rfl rfl rfl rfl) rfl rfl (Bw W hi))
  have fd:=CK (ss:=w.stays) (i:=i) (W.s.symm ▸ hi)
  rw [← hu] at fd
  have s5:∃ u':Option Int,(u'=none∨u'=some 0∨u'=some 1)∧free (ss++[u']) + free (w.stays.drop (i + 1))≤8∧sIf (tE (ak oEq (aa 9) (fC (.int 0)))) (aT (gN 9) (fIx (af (fC .non) (af (fC (.int 1)) aq)) (wp (ak oGt (ak bT (eC (aa 5) (fC .non)) (fF (eR (fAt (aa 0) (fC (.int 2))) (pAt (aa 6)) pNo) (fC .non))) (fC (.int 7)))))) b9 [some w.enc,some (.ref (1 + n)),some (.ref 0),some (.int way),some (.ref A),some (.ref (A + 1)),some (.int i),some (.int T),some (.int od),some (bz u)] h2=.nx [some w.enc,some (.ref (1 + n)),some (.ref 0),some (.int way),some (.ref A),some (.ref (A + 1)),some (.int i),some (.int T),some (.int od),some (bz u')] h2:=by
    have t:=EU u h2
    by_cases e:u=some 0
    · rw [decide_eq_true e] at t
      rw [if_neg (by rw [e];exact fun z=>by cases z),Nat.zero_add] at fd
      obtain⟨σ,hσ⟩ : ∃ σ:Sd,σ = [some w.enc,some (.ref (1 + n)),some (.ref 0),some (.int way),some (.ref A),some (.ref (A + 1)),some (.int i),some (.int T),some (.int od),some (bz u)]:=⟨_,rfl⟩
      have c1:eC (aa 5) (fC .non) σ h2=.ok (.int (free ss)) h2:=ml (by rw [hσ];rfl) hs2
      have c2:fF (eR (fAt (aa 0) (fC (.int 2))) (pAt (aa 6)) pNo) (fC .non) σ h2=.ok (.int (free (w.stays.drop i))) h2:=by
        have p1:fAt (aa 0) (fC (.int 2)) σ h2=.ok (.tup (w.stays.map bz)) h2:=by rw [hσ];exact a0 rfl rfl rfl rfl
        have p2:pAt (aa 6) σ h2=.ok (some (i:Int)) h2:=by rw [hσ];rfl
        have p3:eR (fAt (aa 0) (fC (.int 2))) (pAt (aa 6)) pNo σ h2=.ok (.tup ((w.stays.drop i).map bz)) h2:=by
          unfold eR
          rw [p1,aI,p2,aI]
          show Res.ok (D.tup (cut (w.stays.map bz) (some (i:Int)) none)) h2=_
          rw [EV (by rw [List.length_map,W.s];exact Nat.le_of_lt hi),List.map_drop]
        unfold fF
        rw [p3]
        show (if (bY .non && ((w.stays.drop i).map bz).all bY)=true then _ else _)=_
        rw [sO,pE];rfl
      have c3:ak bT (eC (aa 5) (fC .non)) (fF (eR (fAt (aa 0) (fC (.int 2))) (pAt (aa 6)) pNo) (fC .non)) σ h2=.ok (.int ((free ss:Int) + (free (w.stays.drop i):Nat))) h2:=ax c1 c2 rfl
      rw [← hσ]
      by_cases g:(7:Int) < (free ss:Int) + (free (w.stays.drop i):Nat)
      · refine⟨some 1,.inr (.inr rfl),by rw [mw,if_neg (fun z=>by cases z)];omega,?_⟩
        have c4:fIx (af (fC .non) (af (fC (.int 1)) aq)) (wp (ak oGt (ak bT (eC (aa 5) (fC .non)) (fF (eR (fAt (aa 0) (fC (.int 2))) (pAt (aa 6)) pNo) (fC .non))) (fC (.int 7)))) σ h2=.ok (.int 1) h2:=Et (bU rfl rfl) (Eu (ax c3 rfl (y4 g))) rfl
        refine (kq (bh (ax (by rw [hσ];rfl) rfl t))).trans ((bn c4).trans ?_)
        rw [hσ];rfl
      · refine⟨none,.inl rfl,by rw [mw,if_pos rfl];omega,?_⟩
        have c4:fIx (af (fC .non) (af (fC (.int 1)) aq)) (wp (ak oGt (ak bT (eC (aa 5) (fC .non)) (fF (eR (fAt (aa 0) (fC (.int 2))) (pAt (aa 6)) pNo) (fC .non))) (fC (.int 7)))) σ h2=.ok .non h2:=Et (bU rfl rfl) (Eu (ax c3 rfl (pq g))) rfl
        refine (kq (bh (ax (by rw [hσ];rfl) rfl t))).trans ((bn c4).trans ?_)
        rw [hσ];rfl
    · rw [decide_eq_false e] at t
      exact⟨u,ou,by rw [mw];omega,(d9 (bh (ax rfl rfl t))).trans rfl⟩
  obtain⟨u',ou',fr',s5⟩:=s5
  obtain⟨h3,hh3⟩ : ∃ h3,h3=h2.set (A + 1) (.lst (ss.map bz++[bz u'])):=⟨_,rfl⟩
  have s6:gQ (ik (aa 5) (aa 9)) [some w.enc,some (.ref (1 + n)),some (.ref 0),some (.int way),some (.ref A),some (.ref (A + 1)),some (.int i),some (.int T),some (.int od),some (bz u')] h2=.nx [some w.enc,some (.ref (1 + n)),some (.ref 0),some (.int way),some (.ref A),some (.ref (A + 1)),some (.int i),some (.int T),some (.int od),some (bz u')] h3:=by
    rw [hh3]
    exact lW (uh rfl hs2 rfl hs2 (by rw [List.length_map,ls];exact Nat.lt_of_lt_of_le hi (Nat.le_trans n30 (by decide))))
  refine⟨_,_,(aW s1).trans ((aW s2).trans ((aW s3).trans ((aW s4).trans ((aW s5).trans s6)))),⟨bs++[v],ss++[u'],_,_,_,_,rfl,?_,?_,by simp [lb],by simp [ls],fun x hx => ?_,fr'⟩,?_,?_,?_⟩
  · rw [hh3,List.getElem?_set_ne (by omega)];exact hb2
  · rw [hh3,List.getElem?_set_self (by omega),List.map_append];rfl
  · rcases List.mem_append.mp hx with hx|hx
    · exact os x hx
    · rw [List.mem_singleton.mp hx];exact ou'
  · rw [hh3,List.length_set];exact len2
  · exact⟨fun j hj=>by rw [hh3,List.getElem?_set_ne (by omega)];exact sh2.st j hj,by rw [hh3,List.getElem?_set_ne (by omega)];exact sh2.sts⟩
  · obtain⟨z,ez⟩:=hd2
    exact⟨z,by rw [hh3,List.getElem?_set_ne (by omega)];exact ez⟩
structure EW (w w2:Web) (n:Nat) (h:Hd):Prop where
  ok:w2.Ok n
  st:cG w2
  fr:free w2.stays≤8
  ti:w2.ties=w.ties
  sh:SH 1 n h
  hd:∃ x,h[0]? = some (.lst [.int x])
theorem CL (W:w.Ok n)(n30:n≤30)(S:cG w)(fr:free w.stays≤8)(wt:∀ r∈w.ties,∀ p∈r,1≤p.2∧p.2≤400)(ris:∀ r∈w.ties,r.Pairwise fun p q=>p.1 < q.1){h:Hd}(sh:SH 1 n h)(hd:∃ x,h[0]? = some (.lst [.int x])):∃ w2 h',gh [w.enc,.ref (1 + n),.ref 0] h=.ok w2.enc h'∧EW w w2 n h':=by
  obtain⟨x,hx⟩:=hd
  obtain⟨A,hA⟩ : ∃ A,A=h.length:=⟨_,rfl⟩
  have lA:n + 1 < A:=by rw [hA,Nat.add_comm];exact (List.getElem?_eq_some_iff.mp sh.sts).1
  have dg:=bj hx (show (0:Int) < 3 by omega) (by decide)
  obtain⟨h1,hh1⟩ : ∃ h1,h1=h.set 0 (.lst [.int (x / 3)]):=⟨_,rfl⟩
  rw [← hh1] at dg
  have l1:h1.length=A:=by rw [hh1,List.length_set,hA]
  have sh1:SH 1 n h1:=⟨fun j hj=>by rw [hh1,List.getElem?_set_ne (by omega)];exact sh.st j hj,by rw [hh1,List.getElem?_set_ne (by omega)];exact sh.sts⟩
  have hd1:h1[0]? = some (.lst [.int (x / 3)]):=by rw [hh1];exact List.getElem?_set_self (by omega)
  have w0:0≤x % 3∧x % 3 < 3:=by omega
  generalize x % 3=way at dg w0
  have s1:aT (gN 3) (ar aw (af (aa 2) (af (fC (.int 3)) aq))) [some w.enc,some (.ref (1 + n)),some (.ref 0),none,none,none,none,none,none,none] h=.nx [some w.enc,some (.ref (1 + n)),some (.ref 0),some (.int way),none,none,none,none,none,none] h1:=bn (aA (bU rfl rfl) dg)
  by_cases e:way=0
  · have s2:sIf (tE (ak oEq (aa 3) (fC (.int 0)))) (bc (aa 0)) b9 [some w.enc,some (.ref (1 + n)),some (.ref 0),some (.int way),none,none,none,none,none,none] h1=.rt w.enc h1:=(kq (bh (ax rfl rfl (ui e)))).trans (bA rfl)
    refine⟨w,h1,(cq rfl rfl ((aW s1).trans (nk s2))).trans (dP (by omega)),⟨W,S,fr,rfl,sh1,_,hd1⟩⟩
  · have s2:sIf (tE (ak oEq (aa 3) (fC (.int 0)))) (bc (aa 0)) b9 [some w.enc,some (.ref (1 + n)),some (.ref 0),some (.int way),none,none,none,none,none,none] h1=.nx [some w.enc,some (.ref (1 + n)),some (.ref 0),some (.int way),none,none,none,none,none,none] h1:=(d9 (bh (ax rfl rfl (pj e)))).trans rfl
    have s3:aT (gN 4) (cj aq) [some w.enc,some (.ref (1 + n)),some (.ref 0),some (.int way),none,none,none,none,none,none] h1=.nx [some w.enc,some (.ref (1 + n)),some (.ref 0),some (.int way),some (.ref A),none,none,none,none,none] (h1++[.lst []]):=bn (eT l1.symm rfl (Nat.zero_le _))
    have s4:aT (gN 5) (cj aq) [some w.enc,some (.ref (1 + n)),some (.ref 0),some (.int way),some (.ref A),none,none,none,none,none] (h1++[.lst []])=.nx [some w.enc,some (.ref (1 + n)),some (.ref 0),some (.int way),some (.ref A),some (.ref (A + 1)),none,none,none,none] (h1++[.lst [],.lst []]):=bn (GH (g:=[.lst []]) l1.symm rfl (Nat.zero_le _))
    obtain⟨σ',h',q1,I⟩:=cZ (P:=fun i σ h=>SwI w n A way i σ h) (g:=none) (k:=0) (all:=(List.range n).map fun k:Nat=>D.int k) (fun _ _ _ _=>trivial) (xs:=(List.range n).map fun k:Nat=>D.int k) (tg:=gN 6) (b:=fg) (σ:=[some w.enc,some (.ref (1 + n)),some (.ref 0),some (.int way),some (.ref A),some (.ref (A + 1)),none,none,none,none]) (h:=h1++[.lst [],.lst []]) (by
      intro i x σ h0 hx I
      obtain⟨hi,rfl⟩:=cO hx
      rw [Nat.zero_add] at I ⊢
      obtain⟨σ',h',q,I'⟩:=G7 W n30 S wt ris lA (by omega) hi I
      obtain⟨⟨bs,ss,a6,a7,a8,a9,rfl,_⟩,_⟩:=I
      exact⟨_,rfl,_,_,q,I'⟩) ⟨⟨[],[],_,_,_,_,rfl,kR l1.symm 0,kR l1.symm 1,rfl,rfl,fun _ z=>absurd z List.not_mem_nil,by rw [List.drop_zero];exact Nat.le_trans (Nat.le_of_eq (Nat.zero_add _)) fr⟩,by rw [List.length_append,l1];rfl,sh1.more _,_,dL _ hd1⟩
    rw [List.length_map,List.length_range,Nat.zero_add] at I
    obtain⟨⟨bs,ss,a6,a7,a8,a9,rfl,hb,hs,lb,ls,os,fr'⟩,len,sh',hd'⟩:=I
    have ll:((List.range n).map fun i=>D.ref (1 + i)).length=n:=by rw [List.length_map,List.length_range]
    have s5:iU (bm (cX (lOf (aa 1)))) (gN 6) fg [some w.enc,some (.ref (1 + n)),some (.ref 0),some (.int way),some (.ref A),some (.ref (A + 1)),none,none,none,none] (h1++[.lst [],.lst []])=.nx [some w.enc,some (.ref (1 + n)),some (.ref 0),some (.int way),some (.ref A),some (.ref (A + 1)),a6,a7,a8,a9] h':=lX (eY (dc (cL rfl (ba (sh1.more _).sts))) (by rw [ll];exact Nat.le_trans n30 (by decide))) (by rw [ll];exact q1)
    obtain⟨w2,hw2⟩ : ∃ w2:Web,w2=⟨w.ties,bs,ss⟩:=⟨_,rfl⟩
    have s6:bc (gw (af (fAt (aa 0) (fC (.int 0))) (af (cY (lOf (aa 4))) (af (cY (lOf (aa 5))) aq)))) [some w.enc,some (.ref (1 + n)),some (.ref 0),some (.int way),some (.ref A),some (.ref (A + 1)),a6,a7,a8,a9] h'=.rt w2.enc h':=by
      rw [hw2]
      exact bA (lV (bq (a0 rfl rfl rfl rfl) (bU (oq (cL rfl (ba hb))) (oq (cL rfl (ba hs))))))
    have O:∀ h2,SH 1 n h2→(∃ x,h2[0]? = some (.lst [.int x]))→EW w w2 n h2:=fun h2 a b=>by
      refine⟨?_,by rw [hw2];exact os,?_,by rw [hw2],a,b⟩
      · rw [hw2];exact⟨W.t,lb,ls,W.lt,W.sz⟩
      · rw [hw2];exact Nat.le_trans (Nat.le_add_right _ _) fr'
    have fin:∃ h2,letGo h (.ok w2.enc h')=.ok w2.enc h2∧EW w w2 n h2:=by
      unfold letGo
      dsimp only
      split
      · obtain⟨z,ez⟩:=hd'
        exact⟨_,rfl,O _ (sh'.take (by omega)) ⟨z,by rw [List.getElem?_take_of_lt (by omega)];exact ez⟩⟩
      · exact⟨_,rfl,O _ sh' hd'⟩
    obtain⟨h2,f,o⟩:=fin
    exact⟨w2,h2,(cq rfl rfl ((aW s1).trans ((aW s2).trans ((aW s3).trans ((aW s4).trans ((aW s5).trans s6)))))).trans f,o⟩
end
end Fm
set_option linter.all false
namespace Fm
structure Go (w:Web) (n:Nat):Prop where
  W:w.Ok n
  n30:n≤30
  S:cG w
  fin:∀ s,cn w n s → ∃ t,av w n s (t + 2)=av w n s t∧(∀ k,k < t→av w n s (k + 2)≠av w n s k)∧t≤900000
  pos:∀ p,p < n → ∀ q∈w.ties.getD p [],0≤q.2
structure G8 (w:Web) (n:Nat) (s:List Int) (t:Nat):Prop where
  ht:av w n s (t + 2)=av w n s t
  hm:∀ k,k < t→av w n s (k + 2)≠av w n s k
  hz:t≤900000
structure EX (w:Web) (n:Nat) (s:List Int) (t:Nat):Prop where
  re:av w n s (t + 1)=av w n s t
  no:(0:Int)∉av w n s (t + 1)
theorem sR {a:EF}{σ:Sd}{h h1:Hd}{n:Nat}(p:a σ h=.ok (.int n) h1)(hn:n≤1000000):bm a σ h=.ok ((List.range n).map (fun k:Nat=>D.int k),none) h1:=by
  unfold bm
  rw [p]
  simp only [aI]
  rw [if_pos ⟨by omega,by omega⟩,Int.toNat_natCast]
section
variable {w:Web} {n:Nat} {s s':List Int} {t t':Nat}
theorem G9 (W:w.Ok n)(F:cn w n s)(h:Hd):ge [w.enc,au s] h=.ok (au (cD w n s)) h :=
  (cq rfl rfl ((aW (lW (aA (bU rfl rfl) (wU W F h)))).trans (bA (aA (bU rfl rfl) (iB W F h))))).trans (dP (Nat.le_refl _))
theorem oy (F:cn w n s)(no:(0:Int)∉s):s=List.replicate n 1:=by
  have l:s.length=n:=F.len
  apply List.ext_getElem (by rw [l,List.length_replicate])
  intro i h1 h2
  have b:=dD F i
  rw [List.getD_eq_getElem?_getD,List.getElem?_eq_getElem h1] at b
  rw [List.getElem_replicate]
  rcases b with b|b
  · exact absurd (b ▸ List.getElem_mem h1) no
  · exact b
theorem Go.more (G:Go w n):Jr w w n:=GS G.S G.S (fun p hp a b _ Bb le=>nr Bb le (G.pos p hp)) (fun _ _=>Int.le_refl _) fun p hp=>by
  have m:w.stays.getD p none∈w.stays:=by
    have h:p < w.stays.length:=by rw [G.W.s];exact hp
    rw [List.getD_eq_getElem?_getD,List.getElem?_eq_getElem h]
    exact List.getElem_mem h
  rcases G.S _ m with e|e|e
  · exact .inl ⟨e,e⟩
  · exact .inr (.inl e)
  · exact .inr (.inr e)
theorem BA (e:av w n s (t + 1)=av w n s t):∀ j,av w n s (t + j)=av w n s t
  | 0=>rfl
  | j + 1=>by
    have:=kW (t + 1) t e j
    rw [← BA e j,← this]
    congr 1;omega
theorem zH (e:av w n s (t + 2)=av w n s t)(i:Nat):∀ m,av w n s (t + i + 2 * m)=av w n s (t + i)
  | 0=>rfl
  | m + 1=>by
    have h1:=kW (t + 2) t e (i + 2 * m)
    have h2:=zH e i m
    rw [← h2]
    rw [show t + i + 2 * (m + 1)=t + 2 + (i + 2 * m) by omega,h1]
    congr 1;omega
theorem Ha {x:List Int}(F:cn w n x)(le:LeS (List.replicate n 1) x):x=List.replicate n 1:=by
  refine oy F fun z => ?_
  obtain⟨i,hi,e⟩:=List.getElem_of_mem z
  have h1:=le i
  have hn:i < n:=by rw [← F.len];exact hi
  rw [List.getD_eq_getElem?_getD,List.getD_eq_getElem?_getD,List.getElem?_eq_getElem hi,List.getElem?_eq_getElem (by rw [List.length_replicate];exact hn),List.getElem_replicate,e] at h1
  simp at h1
structure HW (w:Web) (n:Nat) (s s':List Int) (t t':Nat):Prop where
  le:t'≤t
  up:∀ k,LeS (av w n s k) (av w n s' (min k t'))
theorem CM (G:Go w n)(F:cn w n s)(F':cn w n s')(le:LeS s s')(T:EX w n s t)(E':G8 w n s' t'):EX w n s' t'∧HW w n s s' t t':=by
  have hs:=sM G.W G.W G.S G.S G.more F F' le
  have o0:∀ j,av w n s (t + j)=List.replicate n 1:=fun j=>by
    rw [BA T.re j,← T.re]
    exact oy (aQ G.W G.S F _) T.no
  have o1:∀ j,av w n s' (t + j)=List.replicate n 1:=fun j=>Ha (aQ G.W G.S F' _) (by rw [← o0 j];exact hs _)
  have tt:t'≤t:=by
    apply Nat.le_of_not_lt
    intro c
    exact E'.hm t c ((o1 2).trans (o1 0).symm)
  have e0:av w n s' t'=List.replicate n 1:=by
    have h1:=zH E'.ht 0 t
    rw [← show t' + 0=t' from rfl,← h1,← o1 (t' + t)]
    congr 1;omega
  have e1:av w n s' (t' + 1)=List.replicate n 1:=by
    rw [← zH E'.ht 1 t,← o1 (t' + 1 + t)]
    congr 1;omega
  refine⟨⟨e1.trans e0.symm,fun z=>by rw [e1] at z;exact absurd (List.eq_of_mem_replicate z) (by decide)⟩,tt,fun k => ?_⟩
  rcases Nat.le_total k t' with c|c
  · rw [Nat.min_eq_left c];exact hs k
  · rw [Nat.min_eq_right c,e0]
    intro i
    have F2:=aQ G.W G.S F k
    by_cases hi:i < n
    · rw [List.getD_eq_getElem?_getD (l:=List.replicate n (1:Int)),List.getElem?_eq_getElem (by rw [List.length_replicate];exact hi),List.getElem_replicate]
      rcases dD F2 i with b|b<;>rw [b]<;>decide
    · rw [List.getD_eq_getElem?_getD,List.getD_eq_getElem?_getD,List.getElem?_eq_none (by rw [F2.len];omega),List.getElem?_eq_none (by rw [List.length_replicate];omega)]
      exact Int.le_refl _
theorem EY {l l':List Nat}(h:∀ x∈l,x∈l'):LeS (cP w n l) (cP w n l'):=fun i=>by
  by_cases hi:i < n
  · have e:∀ m:List Nat,(cP w n m).getD i 0=if i∈m∨w.stays.getD i none=some 1 then 1 else 0:=fun m=>by
      unfold cP
      rw [List.getD_eq_getElem?_getD,List.getElem?_map,List.getElem?_range hi];rfl
    rw [e,e]
    by_cases c:i∈l∨w.stays.getD i none=some 1
    · rw [if_pos c,if_pos (c.imp (h i) id)];exact Int.le_refl _
    · rw [if_neg c]
      split<;>decide
  · have e:∀ m:List Nat,(cP w n m).getD i 0=0:=fun m=>by
      unfold cP
      rw [List.getD_eq_getElem?_getD,List.getElem?_eq_none (by simp;omega)];rfl
    rw [e,e];exact Int.le_refl _
end
end Fm
set_option linter.all false
namespace Fm
section
variable {w:Web} {n:Nat} {t:Nat}
theorem oz (a:List Int)(h:Hd):oEq (au a) (au a) h=.ok (.bl true) h:=by rw [uo rfl,decide_eq_true rfl]
theorem BB (a:List Int)(h:Hd):oNe (au a) (au a) h=.ok (.bl false) h:=by rw [um rfl,decide_eq_true rfl];rfl
theorem uD (G:Go w n){l:List Nat}(C:Ch w n l){h:Hd}{k a:Nat}(hk:h[k]? = some (.lst (NL l)))(ha:h[a]? = some (.lst ((gk w n (cP w n l) t).map au)))(E:G8 w n (cP w n l) t) :
    g9 [w.enc,.ref k,.tup [eu w n (cP w n l) t,.ref a]] h=.ok (.bl true) h:=by
  have F:=hW G.W G.S C
  have be:=xi G.W G.n30 C hk
  obtain⟨s,hs⟩ : ∃ s,s=cP w n l:=⟨_,rfl⟩
  rw [← hs] at ha E F be ⊢
  have hF:=aQ G.W G.S F
  have tu:∀ j,ge [w.enc,au (av w n s j)] h=.ok (au (av w n s (j + 1))) h:=fun j=>G9 G.W (hF j) h
  obtain⟨d,hd⟩ : ∃ d,d=eu w n s t:=⟨_,rfl⟩
  rw [← hd]
  have s1:aT (gT [3,4]) (aa 2) [some w.enc,some (.ref k),some (D.tup [d,.ref a]),none,none,none] h=.nx [some w.enc,some (.ref k),some (D.tup [d,.ref a]),some d,some (.ref a),none] h:=rfl
  by_cases q:av w n s (t + 1)=av w n s t
  · by_cases z:(0:Int)∈av w n s (t + 1)
    · have e1:d=NOT:=by rw [hd];unfold eu;rw [if_pos q,if_pos z]
      have e2:gk w n s t=[av w n s (t + 1)]:=by unfold gk;rw [if_pos q,if_pos z]
      subst e1
      rw [e2] at ha
      have at0:∀ σ:Sd,aa 4 σ h=.ok (.ref a) h→fAt (aa 4) (fC (.int 0)) σ h=.ok (au (av w n s (t + 1))) h:=fun σ e=>a0 e rfl (ba ha) rfl
      have tt:=tu (t + 1)
      rw [show av w n s (t + 1 + 1)=av w n s (t + 1) from E.ht.trans q.symm] at tt
      refine (cq rfl rfl ((aW s1).trans (nk ((kq (bh (ax rfl rfl rfl))).trans (nk ((kq (bh (ax (dc (cL rfl (ba ha))) rfl rfl))).trans (bA (Bk (kr (bh (ax (aA (bU rfl (at0 _ rfl)) tt) (at0 _ rfl) (oz _ _))) (bh (ax rfl (at0 _ rfl) (zF _ _ _)))))))))))).trans ?_
      rw [decide_eq_true z]
      exact dP (Nat.le_refl _)
    · have e1:d=TRN:=by rw [hd];unfold eu;rw [if_pos q,if_neg z]
      have e2:gk w n s t=aR w n s (t + 1):=by unfold gk;rw [if_pos q,if_neg z]
      subst e1
      rw [e2] at ha
      have ln:((aR w n s (t + 1)).map au).length=t + 1:=by rw [List.length_map,dQ]
      have T:EX w n s t:=⟨q,z⟩
      have zt:(0:Int)∉av w n s t:=by rw [← q];exact z
      have at0:∀ σ:Sd,aa 4 σ h=.ok (.ref a) h→fAt (aa 4) (fC (.int 0)) σ h=.ok (au s) h:=fun σ e=>a0 e rfl (ba ha) (gY (i:=0) (Nat.succ_pos _))
      have atE:∀ σ:Sd,aa 4 σ h=.ok (.ref a) h→fAt (aa 4) (fC (.int (-1))) σ h=.ok (au (av w n s t)) h:=fun σ e=>a0 e rfl (ba ha) (gZ t 1 (Nat.le_refl _))
      have X:∀ x:Option D,∃ σ:Sd,σ = [some w.enc,some (.ref k),some (D.tup [TRN,.ref a]),some TRN,some (.ref a),x]:=fun x=>⟨_,rfl⟩
      have s2:tE (ak oEq (aa 3) (fC (.str [110,111,116]))) [some w.enc,some (.ref k),some (D.tup [TRN,.ref a]),some TRN,some (.ref a),none] h=.ok false h:=bh (ax rfl rfl rfl)
      have s3:tOr (tE (ak oNe (aa 3) (fC (.str [116,117,114,110])))) (tOr (tE (ak oNe (fAt (aa 4) (fC (.int 0))) (ar fH (af (aa 0) (af (aa 1) aq))))) (tE (ak oIn (fC (.int 0)) (fAt (aa 4) (fC (.int (-1))))))) [some w.enc,some (.ref k),some (D.tup [TRN,.ref a]),some TRN,some (.ref a),none] h=.ok (decide ((0:Int)∈av w n s t)) h:=nj (bh (ax rfl rfl rfl)) (nj (bh (ax (at0 _ rfl) (aA (bU rfl rfl) be) (BB _ _))) (bh (ax rfl (atE _ rfl) (zF _ _ _))))
      rw [decide_eq_false zt] at s3
      obtain⟨σ',h',q1,x,q2,q3⟩:=cZ (P:=fun _ σ h'=>∃ x,h'=h ∧ σ = [some w.enc,some (.ref k),some (D.tup [TRN,.ref a]),some TRN,some (.ref a),x]) (g:=none) (k:=0) (all:=(List.range t).map fun k:Nat=>D.int k) (fun _ _ _ _=>trivial) (xs:=(List.range t).map fun k:Nat=>D.int k) (tg:=gN 5) (b:=sN) (σ:=[some w.enc,some (.ref k),some (D.tup [TRN,.ref a]),some TRN,some (.ref a),none]) (h:=h) (by
        rintro i x σ h0 hx ⟨u,rfl,rfl⟩
        obtain⟨hi,rfl⟩:=cO hx
        have zi:(0:Int)∈av w n s i:=Classical.byContradiction fun c=>by
          have h1:=oy (hF i) c
          have h2:=oy (hF t) zt
          have h3:av w n s i=av w n s t:=h1.trans h2.symm
          exact E.hm i hi ((kW i t h3 2).trans (E.ht.trans h3.symm))
        have p1:tOr (tE (ak lI (fC (.int 0)) (fAt (aa 4) (aa 5)))) (tE (ak oNe (ar ge (af (aa 0) (af (fAt (aa 4) (aa 5)) aq))) (fAt (aa 4) (ak bT (aa 5) (fC (.int 1)))))) [some w.enc,some (.ref k),some (D.tup [TRN,.ref a]),some TRN,some (.ref a),some (.int (i:Nat))] h0=.ok false h0:=by
          have at1:fAt (aa 4) (aa 5) [some w.enc,some (.ref k),some (D.tup [TRN,.ref a]),some TRN,some (.ref a),some (.int (i:Nat))] h0=.ok (au (av w n s i)) h0:=a0 rfl rfl (ba ha) (gY (by omega))
          have at2:fAt (aa 4) (ak bT (aa 5) (fC (.int 1))) [some w.enc,some (.ref k),some (D.tup [TRN,.ref a]),some TRN,some (.ref a),some (.int (i:Nat))] h0=.ok (au (av w n s (i + 1))) h0:=a0 rfl (ax rfl rfl rfl) (ba ha) (gY (i:=i + 1) (by omega))
          have n1:=CJ (av w n s i) 0 h0
          rw [decide_eq_true zi] at n1
          exact nj (bh (ax rfl at1 n1)) (bh (ax (aA (bU rfl at1) (tu i)) at2 (BB _ _)))
        exact⟨_,rfl,_,_,(d9 p1).trans rfl,_,rfl,rfl⟩) ⟨none,rfl,rfl⟩
      subst q2 q3
      have rg:bm (ak ig (cX (lOf (aa 4))) (fC (.int 1))) [some w.enc,some (.ref k),some (D.tup [TRN,.ref a]),some TRN,some (.ref a),none] h'=.ok ((List.range t).map (fun k:Nat=>D.int k),none) h':=sR (ax (dc (cL rfl (ba ha))) rfl (by
        rw [ln]
        show Res.ok (D.int (((t + 1:Nat):Int) - 1)) h'=_
        congr 2;omega)) (Nat.le_trans E.hz (by decide))
      have tt:=tu t
      rw [q] at tt
      exact (cq rfl rfl ((aW s1).trans ((aW ((d9 s2).trans rfl)).trans ((aW ((d9 s3).trans rfl)).trans ((aW (lX rg q1)).trans (bA (ax (aA (bU rfl (atE _ rfl)) tt) (atE _ rfl) (oz _ _)))))))).trans (dP (Nat.le_refl _))
  · have e1:d=NOT:=by rw [hd];unfold eu;rw [if_neg q]
    have e2:gk w n s t=[av w n s t,av w n s (t + 1)]:=by unfold gk;rw [if_neg q]
    subst e1
    rw [e2] at ha
    have at0:∀ σ:Sd,aa 4 σ h=.ok (.ref a) h→fAt (aa 4) (fC (.int 0)) σ h=.ok (au (av w n s t)) h:=fun σ e=>a0 e rfl (ba ha) rfl
    have at1:∀ σ:Sd,aa 4 σ h=.ok (.ref a) h→fAt (aa 4) (fC (.int 1)) σ h=.ok (au (av w n s (t + 1))) h:=fun σ e=>a0 e rfl (ba ha) rfl
    have tt:=tu (t + 1)
    rw [show av w n s (t + 1 + 1)=av w n s t from E.ht] at tt
    have ne:oEq (au (av w n s t)) (au (av w n s (t + 1))) h=.ok (.bl false) h:=by rw [uo (by rw [(hF t).len,(hF (t + 1)).len]),decide_eq_false fun e=>q e.symm]
    exact (cq rfl rfl ((aW s1).trans (nk ((kq (bh (ax rfl rfl rfl))).trans ((aW ((d9 (bh (ax (dc (cL rfl (ba ha))) rfl rfl))).trans rfl)).trans ((aW ((d9 (nj (bh (ax (dc (cL rfl (ba ha))) rfl rfl)) (bh (ax (at0 _ rfl) (at1 _ rfl) ne)))).trans rfl)).trans (bA (Bk (kr (bh (ax (aA (bU rfl (at0 _ rfl)) (tu t)) (at1 _ rfl) (oz _ _))) (bh (ax (aA (bU rfl (at1 _ rfl)) tt) (at0 _ rfl) (oz _ _)))))))))))).trans (dP (Nat.le_refl _))
end
end Fm
set_option linter.all false
namespace Fm
section
variable {w:Web} {n:Nat} {s s':List Int} {t t':Nat}
theorem EZ (G:Go w n)(F:cn w n s)(F':cn w n s')(V:HW w n s s' t t')(hz:t≤900000){h:Hd}{a b:Nat}(ha:h[a]? = some (.lst ((aR w n s (t + 1)).map au)))(hb:h[b]? = some (.lst ((aR w n s' (t' + 1)).map au))) :
    hJ [.ref a,.ref b] h=.ok (.bl true) h:=by
  have la:((aR w n s (t + 1)).map au).length=t + 1:=by rw [List.length_map,dQ]
  have lb:((aR w n s' (t' + 1)).map au).length=t' + 1:=by rw [List.length_map,dQ]
  have hF:=aQ G.W G.S F
  have hF':=aQ G.W G.S F'
  have s1:tE (ak oGt (cX (lOf (aa 1))) (cX (lOf (aa 0)))) [some (.ref a),some (.ref b),none,none] h=.ok false h:=bh (ax (dc (cL rfl (ba hb))) (dc (cL rfl (ba ha))) (pq (by rw [la,lb];have:=V.le;omega)))
  obtain⟨σ',h',q1,x,y,q2,q3⟩:=cZ (P:=fun _ σ h'=>∃ x y,h'=h ∧ σ = [some (.ref a),some (.ref b),x,y]) (g:=none) (k:=0) (all:=(List.range (t + 1)).map fun k:Nat=>D.int k) (fun _ _ _ _=>trivial) (xs:=(List.range (t + 1)).map fun k:Nat=>D.int k) (tg:=gN 2) (b:=pz) (σ:=[some (.ref a),some (.ref b),none,none]) (h:=h) (by
    rintro i x σ h0 hx ⟨u,v,rfl,rfl⟩
    obtain⟨hi,rfl⟩:=cO hx
    obtain⟨m,hm⟩ : ∃ m,m=min i t':=⟨_,rfl⟩
    have mn:yM (aa 2) (ak ig (cX (lOf (aa 1))) (fC (.int 1))) [some (.ref a),some (.ref b),some (.int (i:Nat)),v] h0=.ok (.int (m:Nat)) h0:=by
      have:=Jp (a:=aa 2) (b:=ak ig (cX (lOf (aa 1))) (fC (.int 1))) (σ:=[some (.ref a),some (.ref b),some (.int (i:Nat)),v]) (h:=h0) rfl (ax (dc (cL rfl (ba hb))) rfl (show ig _ _ _=Res.ok (D.int ((((aR w n s' (t' + 1)).map au).length:Int) - 1)) h0 from rfl))
      rw [this,lb,hm]
      congr 2
      split<;>omega
    have p1:aT (gN 3) (fAt (aa 1) (yM (aa 2) (ak ig (cX (lOf (aa 1))) (fC (.int 1))))) [some (.ref a),some (.ref b),some (.int (i:Nat)),v] h0=.nx [some (.ref a),some (.ref b),some (.int (i:Nat)),some (au (av w n s' m))] h0:=bn (a0 rfl mn (ba hb) (gY (by omega)))
    have ai:fW h0 (au (av w n s' m))=some ((av w n s' m).map .int):=rfl
    have ln:((av w n s' m).map D.int).length=n:=by rw [List.length_map,(hF' m).len]
    have cp:=bJ (g:=none) (all:=(List.range n).map fun k:Nat=>D.int k) (tg:=gN 0) (cs:=[(tE (ak oGt (fAt (fAt (aa 2) (aa 3)) (aa 0)) (fAt (aa 1) (aa 0))))]) (e:=aa 0) (h:=h0) (I:=fun σ=>∃ x,σ = [x,some (au (av w n s' m)),some (.ref a),some (.int (i:Nat))]) (fun _=>false) (fun d=>d) trivial (xs:=(List.range n).map fun k:Nat=>D.int k) (σ:=[none,some (au (av w n s' m)),some (.ref a),some (.int (i:Nat))]) (by
      rintro x hx σ ⟨u,rfl⟩
      obtain⟨j,hj,rfl⟩:=List.mem_map.mp hx
      have hj:=List.mem_range.mp hj
      refine⟨_,rfl,⟨_,rfl⟩,lY ?_,fun z=>by cases z⟩
      have g1:atI ((av w n s i).map D.int) (j:Int)=some (.int ((av w n s i).getD j 0)):=Bv D.int 0 (by rw [(hF i).len];exact hj)
      have g2:atI ((av w n s' m).map D.int) (j:Int)=some (.int ((av w n s' m).getD j 0)):=Bv D.int 0 (by rw [(hF' m).len];exact hj)
      refine bh (ax (a0 (a0 rfl rfl (ba ha) (gY (by omega))) rfl rfl g1) (a0 rfl rfl rfl g2) (pq ?_))
      have:=V.up i j
      rw [← hm] at this
      omega) ⟨_,rfl⟩
    rw [List.filter_eq_nil_iff.mpr (by simp),List.map_nil] at cp
    have p2:tE (ak oGt (cX (bF 1 [3,0,2] (bm (cX (lOf (aa 3)))) (gN 0) [(tE (ak oGt (fAt (fAt (aa 2) (aa 3)) (aa 0)) (fAt (aa 1) (aa 0))))] (aa 0))) (fC (.int 0))) [some (.ref a),some (.ref b),some (.int (i:Nat)),some (au (av w n s' m))] h0=.ok false h0:=bh (ax (dc (eh (eY (dc (cL rfl ai)) (by rw [ln];exact Nat.le_trans G.n30 (by decide))) (by rw [ln];exact cp))) rfl rfl)
    exact⟨_,rfl,_,_,(aW p1).trans ((d9 p2).trans rfl),_,_,rfl,rfl⟩) ⟨none,none,rfl,rfl⟩
  subst q2 q3
  exact (cq rfl rfl ((aW ((d9 s1).trans rfl)).trans ((aW (lX (sR (dc (cL rfl (ba ha))) (by rw [la];omega)) (by rw [la];exact q1))).trans (bA rfl)))).trans (dP (Nat.le_refl _))
end
end Fm
set_option linter.all false
namespace Fm
theorem xj:∀ l:List Nat,eA (NL l)=some (l.map fun k:Nat=>(k:Int))
  | []=>rfl
  | x :: l=>by
    have:=xj l
    simp only [NL,List.map_cons] at this ⊢
    simp only [eA,this,Option.map_some]
section
variable {w:Web} {n:Nat}
theorem Hb {l5 l2:List Nat}(C5:Ch w n l5)(C2:Ch w n l2):∃ l6,(jd (dh ((l5++l2).map fun k:Nat=>(k:Int)))).map D.int=NL l6∧Ch w n l6 ∧ ∀ x∈l5,x∈l6:=by
  obtain⟨Z,hZ⟩ : ∃ Z,Z=jd (dh ((l5++l2).map fun k:Nat=>(k:Int))):=⟨_,rfl⟩
  have pm:=iu (dh ((l5++l2).map fun k:Nat=>(k:Int)))
  have up:Z.Pairwise (· ≤ ·):=by rw [hZ];exact kl
  rw [← hZ] at pm ⊢
  have nd:Z.Nodup:=pm.nodup_iff.mpr (wN _)
  have me:∀ z:Int,z∈Z ↔ ∃ k:Nat,(k∈l5∨k∈l2)∧(k:Int)=z:=fun z=>by
    rw [pm.mem_iff,Ci,List.mem_map]
    simp only [List.mem_append]
  have po:∀ z∈Z,0≤z:=fun z hz=>by obtain⟨k,_,rfl⟩:=(me z).mp hz;omega
  have mt:∀ k:Nat,k∈Z.map Int.toNat ↔ k∈l5∨k∈l2:=fun k=>by
    rw [List.mem_map]
    constructor
    · rintro⟨z,hz,rfl⟩
      obtain⟨j,hj,rfl⟩:=(me z).mp hz
      simpa using hj
    · intro h
      exact⟨(k:Int),(me _).mpr ⟨k,h,rfl⟩,by simp⟩
  refine⟨Z.map Int.toNat,?_,⟨?_,fun p hp => ?_,fun p hp => ?_⟩,fun x hx=>(mt x).mpr (.inl hx)⟩
  · unfold NL
    rw [List.map_map]
    apply List.map_congr_left
    intro z hz
    have:=po z hz
    show D.int z=D.int ((z.toNat:Nat):Int)
    rw [Int.toNat_of_nonneg this]
  · rw [List.pairwise_map]
    refine (up.and nd).imp_of_mem ?_
    intro a b ha hb ⟨h1,h2⟩
    have:=po a ha
    have:=po b hb
    omega
  · exact ((mt p).mp hp).elim (C5.lt p) (C2.lt p)
  · exact ((mt p).mp hp).elim (C5.no p) (C2.no p)
end
end Fm
set_option linter.all false
namespace Fm
theorem mx {G:Hd→Prop}{tg:GF}{b:SF}{x:D}{xs:List D}{σ σ1 σ2:Sd}{h h2:Hd}(g:G h)(e1:tg x σ = some σ1)(e2:b σ1 h=.nx σ2 h2):lQ G tg b (x :: xs) σ h=lQ G tg b xs σ2 h2:=by
  rw [lQ,if_pos g,e1]
  simp only [e2]
theorem E1 {G:Hd→Prop}{tg:GF}{b:SF}{σ:Sd}{h:Hd}(g:G h):lQ G tg b [] σ h=.nx σ h:=by rw [lQ,if_pos g]
theorem Hc {a b:EF}{tg:GF}{body:SF}{σ:Sd}{h h1 h2:Hd}{l k:List D}{n:Nat}(p:a σ h=.ok (.tup l) h1)(q:b σ h1=.ok (.ref n) h2)(r:h2[n]? = some (.lst k)):wH a b tg body σ h=lQ (fun h=>dl none l h∧dl (some n) k h) tg body ((l.zip k).map fun p=>.tup [p.1,p.2]) σ h2:=by
  simp only [wH,p,q,oZ,r]
theorem my {g:Option Nat}{all:List D}{tg:GF}{e:EF}{x d:D}{xs ds:List D}{σ σ1:Sd}{h h1 h2:Hd}(hh:dl g all h)(e1:tg x σ = some σ1)(e2:e σ1 h=.ok d h1)(e3:bQ g all tg [] e xs σ1 h1=.ok ds h2):bQ g all tg [] e (x :: xs) σ h=.ok (d :: ds) h2:=by
  rw [bQ,if_pos hh,e1]
  simp only [gR,aI,if_true,e2,e3]
theorem sS {g:Option Nat}{all:List D}{tg:GF}{b:SF}{x:D}{xs:List D}{σ σ1 σ2:Sd}{h h2:Hd}(hh:dl g all h)(e1:tg x σ = some σ1)(e2:b σ1 h=.nx σ2 h2):gl g all tg b (x :: xs) σ h=gl g all tg b xs σ2 h2:=by
  rw [gl,if_pos hh,e1]
  simp only [e2]
theorem E2 {g:Option Nat}{all:List D}{tg:GF}{cs:List TF}{e:EF}{σ:Sd}{h:Hd}(hh:dl g all h):bQ g all tg cs e [] σ h=.ok [] h:=by rw [bQ,if_pos hh]
theorem E3 {g:Option Nat}{all:List D}{tg:GF}{b:SF}{σ:Sd}{h:Hd}(hh:dl g all h):gl g all tg b [] σ h=.nx σ h:=by rw [gl,if_pos hh]
noncomputable abbrev XM (s0 s1:Option D) (m:Nat) (w:D) (a5 a6 a7 a8 a9 a10 a11:Option D):Sd:=[s0,s1,some (.ref m),some (.ref 0),some w,a5,a6,a7,a8,a9,a10,a11]
section
variable {w:Web} {n B:Nat}
theorem Ch.sub {l l':List Nat}(C:Ch w n l)(s:l'.Sublist l):Ch w n l':=⟨C.up.sublist s,fun p hp=>C.lt p (s.subset hp),fun p hp=>C.no p (s.subset hp)⟩
def evL (w:Web) (n:Nat):List Nat:=(List.range n).filter fun i=>decide (w.stays.getD i none≠some 0)
theorem uE:Ch w n (evL w n):=by
  refine⟨?_,fun p hp => ?_,fun p hp => ?_⟩
  · exact (List.pairwise_lt_range).sublist List.filter_sublist
  · exact List.mem_range.mp (List.mem_filter.mp hp).1
  · exact of_decide_eq_true (List.mem_filter.mp hp).2
theorem Ch.ev {l:List Nat}(C:Ch w n l):∀ x∈l,x∈evL w n:=fun x hx=>List.mem_filter.mpr ⟨List.mem_range.mpr (C.lt x hx),decide_eq_true (C.no x hx)⟩
theorem sT (W:w.Ok n)(h:Hd):bQ none ((List.range n).map fun k:Nat=>D.int k) (gN 0) [(tE (ak oNe (fAt (fAt (aa 1) (fC (.int 2))) (aa 0)) (fC (.int 0))))] (aa 0) ((List.range n).map fun k:Nat=>D.int k) [none,some w.enc] h=.ok (NL (evL w n)) h:=by
  have:=bJ (g:=none) (all:=(List.range n).map fun k:Nat=>D.int k) (tg:=gN 0) (cs:=[(tE (ak oNe (fAt (fAt (aa 1) (fC (.int 2))) (aa 0)) (fC (.int 0))))]) (e:=aa 0) (h:=h) (I:=fun σ=>∃ x,σ = [x,some w.enc]) (fun d=>match d with | .int i=>decide (w.stays.getD i.toNat none≠some 0)|_=>false) (fun d=>d) trivial (xs:=(List.range n).map fun k:Nat=>D.int k) (σ:=[none,some w.enc]) (by
    rintro x hx σ ⟨u,rfl⟩
    obtain⟨i,hi,rfl⟩:=List.mem_map.mp hx
    have hi:=List.mem_range.mp hi
    refine⟨_,rfl,⟨_,rfl⟩,lY ?_,fun _=>rfl⟩
    show _=Res.ok (decide (w.stays.getD i none≠some 0)) h
    exact bh (ax (a0 (a0 rfl rfl rfl rfl) rfl rfl (Bw W hi)) rfl (uB _ _))) ⟨_,rfl⟩
  rw [this,List.map_id',List.filter_map]
  rfl
theorem He (l:List D):cut l none (some 1)=l.take 1:=by
  cases l with
  | nil=>rfl
  | cons x l =>
    have:=Jy (l:=x :: l) (k:=1) (Nat.succ_le_succ (Nat.zero_le _))
    exact this
theorem SH.set0 {h:Hd}(q:SH B n h)(B0:0 < B)(c:ec):SH B n (h.set 0 c):=⟨fun i hi=>by rw [List.getElem?_set_ne (by omega)];exact q.st i hi,by rw [List.getElem?_set_ne (by omega)];exact q.sts⟩
theorem KC (G:Go w n){h:Hd}(sh:SH B n h)(B0:0 < B)(hd:∃ y,h[0]? = some (.lst [.int y]))(s0 s1:Option D):∃ r5 l5 h',aE zj ED (XM s0 s1 (B + n) w.enc none none none none none none none) h=.nx (XM s0 s1 (B + n) w.enc (some (.ref r5)) none none none none none none) h'∧B + n < r5∧h'[r5]? = some (.lst (NL l5))∧Ch w n l5∧SH B n h':=by
  obtain⟨A,hA⟩ : ∃ A,A=h.length:=⟨_,rfl⟩
  have lA:B + n < A:=by rw [hA];exact (List.getElem?_eq_some_iff.mp sh.sts).1
  obtain⟨l1,h1,r1,len1,C1,sh1,k1,o1⟩:=By G.W G.n30 sh hA lA
  obtain⟨y,hy⟩:=hd
  have hy1:h1[0]? = some (.lst [.int y]):=by rw [o1 0 (by omega) (.inl B0)];exact hy
  have e3:zj (XM s0 s1 (B + n) w.enc none none none none none none none) h=.nx (XM s0 s1 (B + n) w.enc (some (.ref A)) none none none none none none) h1:=bn (aA (bU rfl rfl) r1)
  have dg:=bj hy1 (show (0:Int) < 3 by omega) (by decide)
  obtain⟨h2,hh2⟩ : ∃ h2,h2=h1.set 0 (.lst [.int (y / 3)]):=⟨_,rfl⟩
  rw [← hh2] at dg
  have sh2:SH B n h2:=by rw [hh2];exact sh1.set0 B0 _
  have k2:h2[A]? = some (.lst (NL l1)):=by rw [hh2,List.getElem?_set_ne (by omega)];exact k1
  have len2:h2.length=A + 1:=by rw [hh2,List.length_set];exact len1
  have dg':=aA (F:=aw) (r:=af (aa 3) (af (fC (.int 3)) aq)) (σ:=XM s0 s1 (B + n) w.enc (some (.ref A)) none none none none none none) (bU rfl rfl) dg
  by_cases e:y % 3=1
  · have ll:((List.range n).map fun i=>D.ref (B + i)).length=n:=by rw [List.length_map,List.length_range]
    have lE:(NL (evL w n)).length≤SZ:=by rw [List.length_map];exact Nat.le_trans (sQ uE) (Nat.le_trans G.n30 (by decide))
    have nw:cj (bF 1 [4] (bm (cX (lOf (aa 2)))) (gN 0) [(tE (ak oNe (fAt (fAt (aa 1) (fC (.int 2))) (aa 0)) (fC (.int 0))))] (aa 0)) (XM s0 s1 (B + n) w.enc (some (.ref A)) none none none none none none) h2=.ok (.ref (A + 1)) (h2++[.lst (NL (evL w n))]) :=
      eT len2.symm (eh (eY (dc (cL rfl (ba sh2.sts))) (by rw [ll];exact Nat.le_trans G.n30 (by decide))) (by rw [ll];exact sT G.W h2)) lE
    have sl:=pJ (lo:=pNo) (hi:=pAt (fC (.int 1))) nw rfl rfl (eS len2.symm _)
    have l3:(h2++[ec.lst (NL (evL w n))]).length=A + 2:=by rw [List.length_append,len2];rfl
    rw [He,← List.map_take,l3] at sl
    exact⟨A + 2,(evL w n).take 1,_,(aW e3).trans ((kq (bh (ax dg' rfl (ui e)))).trans (bn sl)),by omega,eS l3.symm _,uE.sub (List.take_sublist _ _),(sh2.more _).more _⟩
  · exact⟨A,l1,h2,(aW e3).trans ((d9 (bh (ax dg' rfl (pj e)))).trans rfl),lA,k2,C1,sh2⟩
theorem Jz (G:Go w n){h:Hd}(sh:SH B n h){r5:Nat}{l5:List Nat}(lr:B + n < r5)(k5:h[r5]? = some (.lst (NL l5)))(C5:Ch w n l5)(s0 s1:Option D):∃ r6 r7 l6 h',aE zk zm (XM s0 s1 (B + n) w.enc (some (.ref r5)) none none none none none none) h=.nx (XM s0 s1 (B + n) w.enc (some (.ref r5)) (some (.ref r6)) (some (.ref r7)) none none none none) h'∧h'[r5]? = some (.lst (NL l5))∧h'[r6]? = some (.lst (NL l6))∧h'[r7]? = some (.lst (NL (evL w n)))∧Ch w n l6 ∧ ∀ x∈l5,x∈l6:=by
  obtain⟨A,hA⟩ : ∃ A,A=h.length:=⟨_,rfl⟩
  have l5A:r5 < A:=by rw [hA];exact (List.getElem?_eq_some_iff.mp k5).1
  obtain⟨l2,h1,r1,len1,C2,sh1,k1,o1⟩:=By G.W G.n30 sh hA (by omega)
  have k5':h1[r5]? = some (.lst (NL l5)):=by rw [o1 r5 l5A (.inr (by omega))];exact k5
  obtain⟨l6,e6,C6,i6⟩:=Hb C5 C2
  have z5:=sQ C5
  have z2:=sQ C2
  have n30:=G.n30
  have ct:sx (aa 5) (ar ei (af (aa 4) (af (aa 2) aq))) (XM s0 s1 (B + n) w.enc (some (.ref r5)) none none none none none none) h=.ok (NL (l5++l2)) h1:=by
    have c:=aA (F:=ei) (r:=af (aa 4) (af (aa 2) aq)) (σ:=XM s0 s1 (B + n) w.enc (some (.ref r5)) none none none none none none) (bU rfl rfl) r1
    have v:aa 5 (XM s0 s1 (B + n) w.enc (some (.ref r5)) none none none none none none) h=.ok (.ref r5) h:=rfl
    unfold sx
    rw [v]
    simp only [aI]
    rw [c]
    simp only [aI,k5',k1]
    rw [if_pos (by rw [List.length_map,List.length_map];exact Nat.le_trans (show l5.length + l2.length≤1000 by omega) (by decide)),← List.map_append]
  have st:pb (sx (aa 5) (ar ei (af (aa 4) (af (aa 2) aq)))) (XM s0 s1 (B + n) w.enc (some (.ref r5)) none none none none none none) h=.ok (NL l6) h1:=by
    unfold pb
    rw [ct]
    simp only [aI,xj]
    rw [if_pos (by rw [List.length_map,List.length_append];omega),e6]
  have z6:=sQ C6
  have e5:zk (XM s0 s1 (B + n) w.enc (some (.ref r5)) none none none none none none) h=.nx (XM s0 s1 (B + n) w.enc (some (.ref r5)) (some (.ref (A + 1))) none none none none none) (h1++[.lst (NL l6)]):=bn (eT len1.symm st (by rw [List.length_map];exact Nat.le_trans z6 (Nat.le_trans n30 (by decide))))
  obtain⟨h2,hh2⟩ : ∃ h2,h2=h1++[ec.lst (NL l6)]:=⟨_,rfl⟩
  rw [← hh2] at e5
  have len2:h2.length=A + 2:=by rw [hh2,List.length_append,len1];rfl
  have sh2:SH B n h2:=by rw [hh2];exact sh1.more _
  have ll:((List.range n).map fun i=>D.ref (B + i)).length=n:=by rw [List.length_map,List.length_range]
  have lE:(NL (evL w n)).length≤SZ:=by rw [List.length_map];exact Nat.le_trans (sQ uE) (Nat.le_trans G.n30 (by decide))
  have e7:zm (XM s0 s1 (B + n) w.enc (some (.ref r5)) (some (.ref (A + 1))) none none none none none) h2=.nx (XM s0 s1 (B + n) w.enc (some (.ref r5)) (some (.ref (A + 1))) (some (.ref (A + 2))) none none none none) (h2++[.lst (NL (evL w n))]) :=
    bn (eT len2.symm (eh (eY (dc (cL rfl (ba sh2.sts))) (by rw [ll];exact Nat.le_trans G.n30 (by decide))) (by rw [ll];exact sT G.W h2)) lE)
  exact⟨A + 1,A + 2,l6,_,(aW e5).trans e7,dL _ (by rw [hh2];exact dL _ k5'),dL _ (by rw [hh2];exact eS len1.symm _),eS len2.symm _,C6,i6⟩
theorem BC (G:Go w n){s s':List Int}{t t':Nat}(F:cn w n s)(F':cn w n s')(le:LeS s s')(E:G8 w n s t)(E':G8 w n s' t'){h:Hd}{T a b:Nat}{L:List D}{i:Nat}(hT:h[T]? = some (.lst L))(e1:atI L (i:Int)=some (.tup [eu w n s t,.ref a]))(e2:atI L ((i:Int) + 1)=some (.tup [eu w n s' t',.ref b]))
    (ha:h[a]? = some (.lst ((gk w n s t).map au))) (hb:h[b]? = some (.lst ((gk w n s' t').map au))) (s0 s1 a5 a6 a7 a9 a10:Option D) (m:Nat) :
    EG (XM s0 s1 m w.enc a5 a6 a7 (some (.ref T)) a9 a10 (some (.int (i:Nat)))) h=.nx (XM s0 s1 m w.enc a5 a6 a7 (some (.ref T)) a9 a10 (some (.int (i:Nat)))) h:=by
  obtain⟨σ,hσ⟩ : ∃ σ,σ = XM s0 s1 m w.enc a5 a6 a7 (some (.ref T)) a9 a10 (some (.int (i:Nat))):=⟨_,rfl⟩
  rw [← hσ]
  have v8:aa 8 σ h=.ok (.ref T) h:=by rw [hσ];rfl
  have v11:aa 11 σ h=.ok (.int (i:Nat)) h:=by rw [hσ];rfl
  have p1:fAt (aa 8) (aa 11) σ h=.ok (.tup [eu w n s t,.ref a]) h:=a0 v8 v11 (ba hT) e1
  have p2:fAt (aa 8) (ak bT (aa 11) (fC (.int 1))) σ h=.ok (.tup [eu w n s' t',.ref b]) h:=a0 v8 (ax v11 rfl rfl) (ba hT) e2
  by_cases T1:av w n s (t + 1)=av w n s t∧(0:Int)∉av w n s (t + 1)
  · obtain⟨q,z⟩:=T1
    obtain⟨T2,V⟩:=CM G F F' le ⟨q,z⟩ E'
    have w1:eu w n s t=TRN:=by unfold eu;rw [if_pos q,if_neg z]
    have l1:gk w n s t=aR w n s (t + 1):=by unfold gk;rw [if_pos q,if_neg z]
    have w2:eu w n s' t'=TRN:=by unfold eu;rw [if_pos T2.re,if_neg T2.no]
    have l2:gk w n s' t'=aR w n s' (t' + 1):=by unfold gk;rw [if_pos T2.re,if_neg T2.no]
    rw [w1] at p1
    rw [w2] at p2
    rw [l1] at ha
    rw [l2] at hb
    have ab:=EZ G F F' V E.hz ha hb
    exact (kq (bh (ax (a0 p1 rfl rfl rfl) rfl rfl))).trans ((d9 (nj (bh (ax (a0 p2 rfl rfl rfl) rfl rfl)) (jg (b:=true) (bh (aA (bU (a0 p1 rfl rfl rfl) (a0 p2 rfl rfl rfl)) ab))))).trans rfl)
  · have w1:eu w n s t=NOT:=by
      unfold eu
      by_cases q:av w n s (t + 1)=av w n s t
      · rw [if_pos q]
        by_cases z:(0:Int)∈av w n s (t + 1)
        · rw [if_pos z]
        · exact absurd ⟨q,z⟩ T1
      · rw [if_neg q]
    rw [w1] at p1
    exact (d9 (bh (ax (a0 p1 rfl rfl rfl) rfl rfl))).trans rfl
theorem Hf (G:Go w n){h:Hd}{r5 r6 r7:Nat}{l5 l6 l7:List Nat}(k5:h[r5]? = some (.lst (NL l5)))(k6:h[r6]? = some (.lst (NL l6)))(k7:h[r7]? = some (.lst (NL l7)))(C5:Ch w n l5)(C6:Ch w n l6)(C7:Ch w n l7)(i6:∀ x∈l5,x∈l6)(i7:∀ x∈l6,x∈l7)(s0 s1:Option D)(m:Nat) :
    ∃ h',aE zn (aE zo (aE zp Bq)) (XM s0 s1 m w.enc (some (.ref r5)) (some (.ref r6)) (some (.ref r7)) none none none none) h=.rt (.bl true) h':=by
  have F5:=hW G.W G.S C5
  have F6:=hW G.W G.S C6
  have F7:=hW G.W G.S C7
  obtain⟨t5,a5,b5,c5⟩:=G.fin _ F5
  obtain⟨t6,a6,b6,c6⟩:=G.fin _ F6
  obtain⟨t7,a7,b7,c7⟩:=G.fin _ F7
  obtain⟨A,hA⟩ : ∃ A,A=h.length:=⟨_,rfl⟩
  have q5:=iG G.W G.n30 G.S C5 k5 hA a5 b5 c5
  obtain⟨h1,hh1⟩ : ∃ h1,h1=h++[ec.lst ((aR w n (cP w n l5) (t5 + 2)).map au),.lst ((gk w n (cP w n l5) t5).map au)]:=⟨_,rfl⟩
  rw [← hh1] at q5
  have m1:∀ {i:Nat} {c:ec},h[i]? = some c→h1[i]? = some c:=fun e=>by rw [hh1];exact dL _ e
  have g1:h1[A + 1]? = some (.lst ((gk w n (cP w n l5) t5).map au)):=by rw [hh1];exact kR hA 1
  have n1:A + 2=h1.length:=by rw [hh1,List.length_append,← hA];rfl
  have q6:=iG G.W G.n30 G.S C6 (m1 k6) n1 a6 b6 c6
  obtain⟨h2,hh2⟩ : ∃ h2,h2=h1++[ec.lst ((aR w n (cP w n l6) (t6 + 2)).map au),.lst ((gk w n (cP w n l6) t6).map au)]:=⟨_,rfl⟩
  rw [← hh2] at q6
  have m2:∀ {i:Nat} {c:ec},h1[i]? = some c→h2[i]? = some c:=fun e=>by rw [hh2];exact dL _ e
  have g2:h2[A + 3]? = some (.lst ((gk w n (cP w n l6) t6).map au)):=by rw [hh2];exact kR n1 1
  have n2:A + 4=h2.length:=by rw [hh2,List.length_append,← n1];rfl
  have q7:=iG G.W G.n30 G.S C7 (m2 (m1 k7)) n2 a7 b7 c7
  obtain⟨h3,hh3⟩ : ∃ h3,h3=h2++[ec.lst ((aR w n (cP w n l7) (t7 + 2)).map au),.lst ((gk w n (cP w n l7) t7).map au)]:=⟨_,rfl⟩
  rw [← hh3] at q7
  have m3:∀ {i:Nat} {c:ec},h2[i]? = some c→h3[i]? = some c:=fun e=>by rw [hh3];exact dL _ e
  have g3:h3[A + 5]? = some (.lst ((gk w n (cP w n l7) t7).map au)):=by rw [hh3];exact kR n2 1
  have n3:A + 6=h3.length:=by rw [hh3,List.length_append,← n2];rfl
  obtain⟨d5,hd5⟩ : ∃ d,d=D.tup [eu w n (cP w n l5) t5,.ref (A + 1)]:=⟨_,rfl⟩
  obtain⟨d6,hd6⟩ : ∃ d,d=D.tup [eu w n (cP w n l6) t6,.ref (A + 2 + 1)]:=⟨_,rfl⟩
  obtain⟨d7,hd7⟩ : ∃ d,d=D.tup [eu w n (cP w n l7) t7,.ref (A + 4 + 1)]:=⟨_,rfl⟩
  rw [← hd5] at q5
  rw [← hd6] at q6
  rw [← hd7] at q7
  obtain⟨ls,hls⟩ : ∃ ls:List D,ls=[.ref r5,.ref r6,.ref r7]:=⟨_,rfl⟩
  have cp:bQ none ls (gN 0) [] (ar dR (af (aa 1) (af (aa 0) aq))) [.ref r5,.ref r6,.ref r7] [none,some w.enc] h=.ok [d5,d6,d7] h3 :=
    my trivial rfl (aA (bU rfl rfl) q5) (my trivial rfl (aA (bU rfl rfl) q6) (my trivial rfl (aA (bU rfl rfl) q7) (E2 trivial)))
  obtain⟨h4,hh4⟩ : ∃ h4,h4=h3++[ec.lst [d5,d6,d7]]:=⟨_,rfl⟩
  have e7:zn (XM s0 s1 m w.enc (some (.ref r5)) (some (.ref r6)) (some (.ref r7)) none none none none) h=.nx (XM s0 s1 m w.enc (some (.ref r5)) (some (.ref r6)) (some (.ref r7)) (some (.ref (A + 6))) none none none) h4:=by
    rw [hh4]
    refine bn (eT n3 (eh (pr (lV (bq rfl (bU rfl rfl)))) ?_) (of_decide_eq_true rfl))
    rw [hls] at cp
    exact cp
  have m4:∀ {i:Nat} {c:ec},h3[i]? = some c→h4[i]? = some c:=fun e=>by rw [hh4];exact dL _ e
  have g4:h4[A + 6]? = some (.lst [d5,d6,d7]):=by rw [hh4];exact eS n3 _
  have u5:=uD G C5 (m4 (m3 (m2 (m1 k5)))) (m4 (m3 (m2 g1))) ⟨a5,b5,c5⟩
  have u6:=uD G C6 (m4 (m3 (m2 (m1 k6)))) (m4 (m3 g2)) ⟨a6,b6,c6⟩
  have u7:=uD G C7 (m4 (m3 (m2 (m1 k7)))) (m4 g3) ⟨a7,b7,c7⟩
  rw [← hd5] at u5
  rw [show D.tup [eu w n (cP w n l6) t6,.ref (A + 3)] = d6 from hd6.symm] at u6
  rw [show D.tup [eu w n (cP w n l7) t7,.ref (A + 5)] = d7 from hd7.symm] at u7
  have bd:∀ {r:Nat} {d:D} {x y:Option D} ,g9 [w.enc,.ref r,d] h4=.ok (.bl true) h4→EE (XM s0 s1 m w.enc (some (.ref r5)) (some (.ref r6)) (some (.ref r7)) (some (.ref (A + 6))) (some (.ref r)) (some d) none) h4=.nx (XM s0 s1 m w.enc (some (.ref r5)) (some (.ref r6)) (some (.ref r7)) (some (.ref (A + 6))) (some (.ref r)) (some d) none) h4:=fun u=>(d9 (jg (b:=true) (bh (aA (bq rfl (bU rfl rfl)) u)))).trans rfl
  have gg:dl none [.ref r5,.ref r6,.ref r7] h4∧dl (some (A + 6)) [d5,d6,d7] h4:=⟨trivial,g4⟩
  have e8:zo (XM s0 s1 m w.enc (some (.ref r5)) (some (.ref r6)) (some (.ref r7)) (some (.ref (A + 6))) none none none) h4=.nx (XM s0 s1 m w.enc (some (.ref r5)) (some (.ref r6)) (some (.ref r7)) (some (.ref (A + 6))) (some (.ref r7)) (some d7) none) h4 :=
    (Hc (lV (bq rfl (bU rfl rfl))) rfl g4).trans ((mx gg rfl (bd (x:=none) (y:=none) u5)).trans ((mx gg rfl (bd (x:=none) (y:=none) u6)).trans ((mx gg rfl (bd (x:=none) (y:=none) u7)).trans (E1 gg))))
  have x5:atI [d5,d6,d7] ((0:Nat):Int)=some (.tup [eu w n (cP w n l5) t5,.ref (A + 1)]):=by rw [hd5];rfl
  have x6:atI [d5,d6,d7] (((0:Nat):Int) + 1)=some (.tup [eu w n (cP w n l6) t6,.ref (A + 3)]):=by rw [hd6];rfl
  have y6:atI [d5,d6,d7] ((1:Nat):Int)=some (.tup [eu w n (cP w n l6) t6,.ref (A + 3)]):=by rw [hd6];rfl
  have y7:atI [d5,d6,d7] (((1:Nat):Int) + 1)=some (.tup [eu w n (cP w n l7) t7,.ref (A + 5)]):=by rw [hd7];rfl
  have w1:=BC G F5 F6 (EY i6) ⟨a5,b5,c5⟩ ⟨a6,b6,c6⟩ g4 x5 x6 (m4 (m3 (m2 g1))) (m4 (m3 g2)) s0 s1 (some (.ref r5)) (some (.ref r6)) (some (.ref r7)) (some (.ref r7)) (some d7) m
  have w2:=BC G F6 F7 (EY i7) ⟨a6,b6,c6⟩ ⟨a7,b7,c7⟩ g4 y6 y7 (m4 (m3 g2)) (m4 g3) s0 s1 (some (.ref r5)) (some (.ref r6)) (some (.ref r7)) (some (.ref r7)) (some d7) m
  have e9:zp (XM s0 s1 m w.enc (some (.ref r5)) (some (.ref r6)) (some (.ref r7)) (some (.ref (A + 6))) (some (.ref r7)) (some d7) none) h4=.nx (XM s0 s1 m w.enc (some (.ref r5)) (some (.ref r6)) (some (.ref r7)) (some (.ref (A + 6))) (some (.ref r7)) (some d7) (some (.int ((1:Nat):Int)))) h4 :=
    (lX (eY (n:=2) rfl (by decide)) rfl).trans ((sS (g:=none) (xs:=[.int ((1:Nat):Int)]) trivial rfl w1).trans ((sS (g:=none) (xs:=[]) trivial rfl w2).trans (E3 (g:=none) trivial)))
  exact⟨_,(aW e7).trans ((aW e8).trans ((aW e9).trans (bA rfl)))⟩
end
theorem CN (ns:List Int){n:Nat}(n30:n≤30)(h:Hd){A:Nat}(hA:A=h.length)(r:Option D):∃ h1,bQ none ((List.range n).map fun k:Nat=>D.int k) (gN 0) [] (cj (af (ar bB (af (aa 1) (af (ak bT (fC (.int 1)) (aa 0)) aq))) aq)) ((List.range n).map fun k:Nat=>D.int k) [none,some (.lit (ns.map .int))] h=.ok ((List.range n).map fun i=>.ref (A + i)) h1∧h1.length=A + n∧(∀ j,j < n → ∃ y,h1[A + j]? = some (.lst [.int y])) ∧ ∀ j,j < A→h1[j]? = h[j]? := by
  obtain⟨hh,hhh⟩ : ∃ hh,hh=h:=⟨_,rfl⟩
  obtain⟨ds,h4,k4,l4,v4,σ4,q4,hh4,g5,g6⟩:=gc (g:=none) (all:=(List.range n).map fun k:Nat=>D.int k) (tg:=gN 0) (xs:=(List.range n).map fun k:Nat=>D.int k) (k:=0)
    (e:=cj (af (ar bB (af (aa 1) (af (ak bT (fC (.int 1)) (aa 0)) aq))) aq)) (σ:=[none,some (.lit (ns.map .int))]) (h:=h)
    (P:=fun i σ h=>(∃ a,σ = [a,some (.lit (ns.map .int))])∧h.length=A + i∧(∀ j,j < i → ∃ y,h[A + j]? = some (.lst [.int y])) ∧ ∀ j,j < A→h[j]? = hh[j]?) (V:=fun i d=>d=.ref (A + i)) (fun _ _ _ _=>trivial) (by
      rintro i x σ h0 hx ⟨⟨a,rfl⟩,hl,e1,e2⟩
      obtain⟨hi,rfl⟩:=cO hx
      rw [Nat.zero_add] at hl e1 ⊢
      obtain⟨v,cv⟩:=ow ns (1 + i) (by omega) h0
      have ad:(((1 + i:Nat)):Int)=1 + (i:Int):=by omega
      rw [ad] at cv
      refine⟨_,rfl,.ref (A + i),h0++[.lst [.int v]],eT hl.symm (bq (aA (bU rfl (ax rfl rfl rfl)) cv) rfl) (of_decide_eq_true rfl),rfl,⟨_,rfl⟩,by rw [List.length_append,hl];rfl,fun j hj => ?_,fun j hj=>by rw [List.getElem?_append_left (by omega)];exact e2 j hj⟩
      by_cases hji:j < i
      · obtain⟨y,ey⟩:=e1 j hji
        exact⟨y,dL _ ey⟩
      · have:j=i:=by omega
        subst this
        exact⟨v,eS hl.symm _⟩) ⟨⟨_,rfl⟩,by omega,fun j hj=>by omega,fun j _=>by rw [hhh]⟩
  rw [List.length_map,List.length_range] at l4 hh4 g5
  rw [Nat.zero_add] at hh4 g5
  have e4:ds=(List.range n).map fun i=>.ref (A + i):=iy l4 fun i d hd=>by simpa using v4 i d hd
  subst e4
  exact⟨h4,k4,hh4,g5,fun j hj=>by rw [g6 j hj,hhh]⟩
theorem E4 {a b c:SF}{σ σ':Sd}{h h':Hd}(e:aE a b σ h=.nx σ' h'):aE a (aE b c) σ h=c σ' h':=by
  unfold aE at e ⊢
  revert e
  cases q:a σ h with
  | nx σ1 g=>intro e;simp only at e ⊢;rw [e]
  | _=>intro e;simp at e
theorem JA (ns:List Int)(hns:ns.length≤63):∃ h,Br [.lit (ns.map .int)] []=.ok (.bl true) h:=by
  obtain⟨n,w,h1,O⟩:=Jx ns
  have e0:zh [some (.lit (ns.map .int)),none,none,none,none,none,none,none,none,none,none,none] []=.nx [some (.lit (ns.map .int)),some w.enc,some (.ref (1 + n)),some (.ref 0),none,none,none,none,none,none,none,none] h1:=by
    rw [Nat.add_comm]
    have:=aA (F:=iC) (r:=af (aa 0) aq) (σ:=[some (.lit (ns.map .int)),none,none,none,none,none,none,none,none,none,none,none]) (bq rfl rfl) O.run
    unfold zh aT
    rw [this];rfl
  have sh:SH 1 n h1:=⟨O.hst,by rw [Nat.add_comm];exact O.sts⟩
  obtain⟨w2,h2,r2,o2⟩:=CL O.ok O.n30 O.st O.fr O.wt O.ris sh O.hd0
  have e1:EB [some (.lit (ns.map .int)),some w.enc,some (.ref (1 + n)),some (.ref 0),none,none,none,none,none,none,none,none] h1=.nx (XM (some (.lit (ns.map .int))) (some w.enc) (1 + n) w2.enc none none none none none none none) h2:=bn (aA (bq rfl (bU rfl rfl)) r2)
  obtain⟨x,hx⟩:=o2.hd
  have dg:=bj hx (show (0:Int) < 4 by omega) (by decide)
  obtain⟨h3,hh3⟩ : ∃ h3,h3=h2.set 0 (.lst [.int (x / 4)]):=⟨_,rfl⟩
  rw [← hh3] at dg
  have l2:0 < h2.length:=(List.getElem?_eq_some_iff.mp hx).1
  have hx3:h3[0]? = some (.lst [.int (x / 4)]):=by rw [hh3,List.getElem?_set_self l2]
  have sh3:SH 1 n h3:=by rw [hh3];exact o2.sh.set0 (by decide) _
  have dg':=aA (F:=aw) (r:=af (aa 3) (af (fC (.int 4)) aq)) (σ:=XM (some (.lit (ns.map .int))) (some w.enc) (1 + n) w2.enc none none none none none none none) (bU rfl rfl) dg
  have e2:∃ v m B h4,EC (XM (some (.lit (ns.map .int))) (some w.enc) (1 + n) w2.enc none none none none none none none) h2=.nx (XM (some (.lit (ns.map .int))) (some w.enc) (B + m) v.enc none none none none none none none) h4∧Go v m∧SH B m h4∧0 < B ∧ ∃ y,h4[0]? = some (.lst [.int y]):=by
    by_cases e:x % 4=1
    · obtain⟨c,cx⟩:=ow ns 33 (by omega) h3
      have cx:bB [.lit (ns.map .int),.int 33] h3=.ok (.int c) h3:=cx
      have l3:0 < h3.length:=(List.getElem?_eq_some_iff.mp hx3).1
      obtain⟨m,v,hL,l1,l2,V,S,sym,bb,bt,y,hy⟩:=G5 (h:=h3++[.lst [.int c]]) (B:=h3.length) (x:=c) (by simp) l3 ⟨_,dL _ hx3⟩
      have p1:aT (gN 4) (ar gj (af (cj (af (ar bB (af (aa 0) (af (fC (.int 33)) aq))) aq)) aq)) (XM (some (.lit (ns.map .int))) (some w.enc) (1 + n) w2.enc none none none none none none none) h3=.nx (XM (some (.lit (ns.map .int))) (some w.enc) (1 + n) v.enc none none none none none none none) hL:=bn (aA (bq (ug (bq (aA (bU rfl rfl) cx) rfl)) rfl) l1)
      obtain⟨A,hA⟩ : ∃ A,A=hL.length:=⟨_,rfl⟩
      have lA:0 < A:=by rw [hA];exact (List.getElem?_eq_some_iff.mp hy).1
      obtain⟨h5,q1,q2,q3,q4⟩:=CN ns l2 hL hA none
      have lt:(v.ties.map lU).length=m:=by rw [List.length_map,V.t]
      have p2:aT (gN 2) (cj (bF 1 [0] (bm (cX (lOf (fAt (aa 4) (fC (.int 0)))))) (gN 0) [] (cj (af (ar bB (af (aa 1) (af (ak bT (fC (.int 1)) (aa 0)) aq))) aq)))) (XM (some (.lit (ns.map .int))) (some w.enc) (1 + n) v.enc none none none none none none none) hL=.nx (XM (some (.lit (ns.map .int))) (some w.enc) (A + m) v.enc none none none none none none none) (h5++[.lst ((List.range m).map fun i=>.ref (A + i))]) :=
        bn (eT q2.symm (eh (eY (dc (cL (a0 rfl rfl rfl rfl) rfl)) (by rw [lt];exact Nat.le_trans l2 (by decide))) (by rw [lt];exact q1)) (by rw [List.length_map,List.length_range];exact Nat.le_trans l2 (by decide)))
      refine⟨v,m,A,_,(kq (bh (ax dg' rfl (ui e)))).trans ((aW p1).trans p2),⟨V,l2,S,fun s F => ?_,fun p hp q hq=>by have:=(bt p hp).2 q hq;omega⟩,⟨fun i hi=>let ⟨y,ey⟩:=q3 i hi;⟨y,dL _ ey⟩,eS q2.symm _⟩,lA,y,dL _ ((q4 0 lA).trans hy)⟩
      obtain⟨t,t1,t2⟩:=Kx V S F sym
      refine⟨t,t1,t2,?_⟩
      have dn:=Bu V S F sym t2 t (Nat.le_refl _)
      have u0:=(zG (aQ V S F 0) (aQ V S F (0 + 1)) bb bt m (Nat.le_refl _)).2
      have u1:=(zG (aQ V S F t) (aQ V S F (t + 1)) bb bt m (Nat.le_refl _)).1
      simp only [eN] at dn
      omega
    · refine⟨w2,n,1,h3,(d9 (bh (ax dg' rfl (pj e)))).trans rfl,⟨o2.ok,O.n30,o2.st,fun s F => ?_,fun p hp q hq => ?_⟩,sh3,by decide,_,hx3⟩
      · have sym:∀ f s,S2 (fun i=>w2.ties.getD i []) f s n=S2 (fun i=>w2.ties.getD i []) s f n:=by rw [o2.ti];exact O.sym
        obtain⟨t,t1,t2⟩:=Kx o2.ok o2.st F sym
        have:=GZ o2.ok o2.st F sym o2.fr t2
        exact⟨t,t1,t2,by omega⟩
      · rw [o2.ti] at hq
        have hp2:p < w.ties.length:=by rw [O.ok.t];exact hp
        rw [List.getD_eq_getElem?_getD,List.getElem?_eq_getElem hp2] at hq
        have:=(O.wt _ (List.getElem_mem hp2) q hq).1
        omega
  obtain⟨v,m,B,h4,e2,G,sh4,B0,hd4⟩:=e2
  obtain⟨r5,l5,h5,e3,lr,k5,C5,sh5⟩:=KC G sh4 B0 hd4 (some (.lit (ns.map .int))) (some w.enc)
  obtain⟨r6,r7,l6,h6,e4,k5',k6,k7,C6,i6⟩:=Jz G sh5 lr k5 C5 (some (.lit (ns.map .int))) (some w.enc)
  obtain⟨h',e5⟩:=Hf G k5' k6 k7 C5 C6 uE i6 C6.ev (some (.lit (ns.map .int))) (some w.enc) (B + m)
  exact⟨[],(cq rfl rfl ((aW e0).trans ((aW e1).trans ((aW e2).trans ((E4 e3).trans ((E4 e4).trans e5)))))).trans (pi rfl)⟩
end Fm
set_option Elab.async false
set_option linter.all false
set_option maxRecDepth 100000
def PySem.W.Fast.tw90343872475197607 : Type := PySem.Params
theorem PySem.W.Fast.te90343872475197607 : PySem.Params = PySem.W.Fast.tw90343872475197607 := rfl
open PySem PySem.W PyProof.Rows
set_option maxRecDepth 100000 in
set_option maxHeartbeats 0 in
theorem PySem.Challenge.cw_followmost_k33_whole_more_people_turn_al_holds : PySem.Challenge.rw_followmost_k33_whole_more_people_turn_al.Holds := by
  w_on;o_law;k_head;(case hw=>w_witness2)
  k_fill
  refine Fm.Ko (l := PySem.Challenge.rw_followmost_k33_whole_more_people_turn_al) (F := Fm.Br) (k := 8) (x := "_law_script") rfl rfl ⟨rfl, by decide, by decide⟩ (fun w h Y => PySem.W.kIn_of Y) ?F Fm.JA
  case F =>
    intro w mg fa h KX G hmg
    refine' Fm.Jt KX G hmg ?_ ?_ ?_ ?_ ?_ ?_ ?_ ?_ ?_ ?_ ?_ ?_ ?_ ?_ ?_ ?_ ?_ ?_ ?_ ?_ ?_ ?_ ?_ ?_ ?_ ?_ ?_ ?_ ?_ ?_ ?_ ?_ ?_ ?_ ?_ ?_ ?_ ?_ ?_ ?_ ?_ ?_ ?_ ?_ ?_ ?_ ?_ ?_ ?_ ?_ ?_ ?_ ?_ ?_ ?_ ?_ ?_ ?_ ?_ ?_ ?_ ?_ ?_ ?_ ?_ ?_ ?_ ?_ ?_ ?_ ?_ ?_ ?_ ?_ ?_ ?_ ?_ ?_ ?_ ?_ ?_ ?_ ?_ ?_ ?_ ?_ ?_ ?_ ?_ ?_ ?_ ?_ ?_ ?_ ?_ ?_ ?_ ?_ ?_ ?_ ?_ ?_ ?_ ?_ ?_ ?_ ?_ ?_ ?_ ?_ ?_ ?_ ?_ ?_ ?_ ?_ ?_ ?_ ?_ ?_ ?_ ?_ ?_ ?_ ?_ ?_ ?_ ?_ ?_ ?_ ?_ ?_ ?_ ?_ ?_ ?_ ?_ ?_ ?_ ?_ ?_ ?_
    all_goals try first|k_is|k_exc|kit_is
